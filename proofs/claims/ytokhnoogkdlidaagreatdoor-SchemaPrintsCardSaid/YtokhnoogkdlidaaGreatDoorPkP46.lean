/-
  The package schema's maker: its last step, which struct is the whole. Conditions: those that each theorem names.
-/
import Derived.Test.YtokhnoogkdlidaaGreatDoorPkP25
import Derived.Test.YtokhnoogkdlidaaGreatDoorPkP31
import Derived.Test.YtokhnoogkdlidaaGreatDoorPkP32
import Derived.Test.YtokhnoogkdlidaaGreatDoorPkP37
import Derived.Test.YtokhnoogkdlidaaGreatDoorPkP38
import Derived.Test.YtokhnoogkdlidaaGreatDoorPkP42
namespace Go.Proofs.YtokhnoogkdlidaaGreatDoor
open Go.ChangeShapes Go.WideShapes Go.ChangeAt Go.RowKit Go.Shelf
set_option maxRecDepth 100000 in
set_option maxHeartbeats 2000000 in
theorem one_sign (s sg:ByteArray)(x:Int)(i:Nat)(w:World)(hx:x=i)(hi:i<s.size)(hs:s.size≤281474976710656)(hg:sg.size≤9223372036854775807)(h1:stA (bts s) isLet i=false)(h2:begins (bts s) i=false)(h3:stA (bts s) (isC 34) i=false) :
  Calls Tryz.prog 61 #[.string s,.string sg,.int .i64 x] w fun e w'=>OneVal (if amg sg ((bts s).getD i 0)=true then some (⟨4,sub (bts s) i (i+1),i⟩,i+1) else none) e∧Below w.heap.size w w':=by
 subst hx
 unfold begins at h2
 rw [Bool.or_eq_false_iff] at h2
 obtain ⟨h4,h5⟩:=h2
 have hil:i<(bts s).length:=by rw [bts_length];exact hi
 rw [stA_of hil] at h1 h3 h4 h5
 rw [stA_at (p:=isDig) rfl (i+1)] at h5
 have hzi:=bts_get hi
 have HHAS:=Lib.hid (fun W=>has_any sg ((bts s).getD i 0) W hg)
 obtain ⟨r,hr⟩:∃ r,(if amg sg ((bts s).getD i 0)=true then some ((⟨4,sub (bts s) i (i+1),i⟩:Tok),i+1) else none)=r:=⟨_,rfl⟩
 have HR:=Lib.hid hr
 have HX:=Lib.hid (ext_str s i (i+1))
 rw [hr]
 clear hr
 have HAT:=Lib.hid (fun W=>at_any s ((i:Int)+1) (i+1) W (by omega))
 generalize (bts s).getD i 0=z at *
 generalize (bts s).getD (i+1) 0=z1 at *
 have hz:(s[i].toNat:Int)=z:=hzi.symm
 have n34:(z==34)=false:=h3
 have H1:=Lib.hid h1
 have H4:=Lib.hid h4
 have H5:=Lib.hid h5
 clear h1 h3 h4 h5 hzi hil
 by_cases h45:z=45
 · have t45:(z==45)=true:=beq_iff_eq.2 h45
   have H5':=Lib.hid (show isDig z1=false by have:=H5.out;rw [h45] at this;exact this)
   clear h45
   go_enter Tryz.func61,Tryz.ntmps61
   go_wp2_with fail
   refine (rletter_any _ _).mono ?_
   rintro e w1 ⟨rfl,rfl⟩
   rw [H1.out]
   go_wp2_with fail
   refine (rdigit_any _ _).mono ?_
   rintro e w1 ⟨rfl,rfl⟩
   rw [H4.out]
   go_wp2_with fail
   refine (HAT.out _).mono ?_
   rintro e w1 ⟨rfl,rfl⟩
   go_wp2_with fail
   refine (rdigit_any _ _).mono ?_
   rintro e w1 ⟨rfl,rfl⟩
   rw [H5'.out]
   go_wp2_with fail
   refine (HHAS.out _).mono ?_
   rintro e w1 ⟨rfl,rfl⟩
   cases hq:amg sg z
   · have HRR:=Lib.hid (show r=none by rw [←HR.out,hq];rfl)
     clear hq
     go_wp2
     exact bodyPost_ret (v:=.tuple #[.agg #[.int .i64 0,.string ⟨#[]⟩,.int .i64 i],.int .i64 i,.bool false]) (by simp [results,Tryz.results61,go_sem]) rfl ⟨HRR.out▸⟨_,_,_,_,rfl⟩,two_new w _ _⟩
   · have HRR:=Lib.hid (show r=some ((⟨4,sub (bts s) i (i+1),i⟩:Tok),i+1) by rw [←HR.out,hq];rfl)
     clear hq
     go_upto_region 33 with (fail)
     rw [HX.out]
     go_wp2
     exact bodyPost_ret (v:=.tuple #[.agg #[.int .i64 4,.string (strOfNums (sub (bts s) i (i+1))),.int .i64 i],.int .i64 (i+1:Nat),.bool true]) (by simp [results,Tryz.results61,go_sem]) rfl ⟨HRR.out▸rfl,two_new w _ _⟩
 · have t45:(z==45)=false:=beq_eq_false_iff_ne.2 h45
   clear h45
   go_enter Tryz.func61,Tryz.ntmps61
   go_wp2_with fail
   refine (rletter_any _ _).mono ?_
   rintro e w1 ⟨rfl,rfl⟩
   rw [H1.out]
   go_wp2_with fail
   refine (rdigit_any _ _).mono ?_
   rintro e w1 ⟨rfl,rfl⟩
   rw [H4.out]
   go_wp2_with fail
   refine (HHAS.out _).mono ?_
   rintro e w1 ⟨rfl,rfl⟩
   cases hq:amg sg z
   · have HRR:=Lib.hid (show r=none by rw [←HR.out,hq];rfl)
     clear hq
     go_wp2
     exact bodyPost_ret (v:=.tuple #[.agg #[.int .i64 0,.string ⟨#[]⟩,.int .i64 i],.int .i64 i,.bool false]) (by simp [results,Tryz.results61,go_sem]) rfl ⟨HRR.out▸⟨_,_,_,_,rfl⟩,two_new w _ _⟩
   · have HRR:=Lib.hid (show r=some ((⟨4,sub (bts s) i (i+1),i⟩:Tok),i+1) by rw [←HR.out,hq];rfl)
     clear hq
     go_upto_region 33 with (fail)
     rw [HX.out]
     go_wp2
     exact bodyPost_ret (v:=.tuple #[.agg #[.int .i64 4,.string (strOfNums (sub (bts s) i (i+1))),.int .i64 i],.int .i64 (i+1:Nat),.bool true]) (by simp [results,Tryz.results61,go_sem]) rfl ⟨HRR.out▸rfl,two_new w _ _⟩
theorem one_any (s sg:ByteArray)(x:Int)(i:Nat)(w:World)(hT:Tabs w)(hx:x=i)(hi:i≤s.size)(hs:s.size≤281474976710656)(hg:sg.size≤9223372036854775807) :
  Calls Tryz.prog 61 #[.string s,.string sg,.int .i64 x] w fun e w'=>OneVal (tok okU (amg sg) (bts s) i) e∧Below w.heap.size w w':=by
 by_cases h0:i=s.size
 · rw [tok_end (by rw [bts_length];exact h0)]
   exact one_end s sg x i w hx h0
 have hlt:i<s.size:=by omega
 have hil:i<(bts s).length:=by rw [bts_length];exact hlt
 cases h1:stA (bts s) isLet i
 · cases h2:begins (bts s) i
   · cases h3:stA (bts s) (isC 34) i
     · have e:tok okU (amg sg) (bts s) i=if amg sg ((bts s).getD i 0)=true then some (⟨4,sub (bts s) i (i+1),i⟩,i+1) else none:=by
        cases h4:amg sg ((bts s).getD i 0)
        · rw [tok_none hil h1 h2 h3 (by rw [stA_of hil];exact h4)]
          rfl
        · rw [tok_sign hil h1 h2 h3 (by rw [stA_of hil];exact h4)]
          rfl
       rw [e]
       exact one_sign s sg x i w hx hlt hs hg h1 h2 h3
     · rw [tok_quo hil h1 h2 h3]
       exact one_quo s sg x i w hT hx hs h3
   · rw [tok_num hil h1 h2]
     exact one_num s sg x i w hx hs h1 h2
 · rw [tok_name hil h1]
   exact one_name s sg x i w hx hs h1
end Go.Proofs.YtokhnoogkdlidaaGreatDoor
namespace Go.Proofs.YtokhnoogkdlidaaGreatDoor
open Go.ChangeShapes Go.WideShapes Go.ChangeAt Go.RowKit Go.Shelf
def RefPost (base:Nat)(w:World)(r:List Tok × Int × Nat)(e:Ending)(w':World):Prop:=
 ∃ v,e=.returned (.tuple #[v,.int .i64 r.2.1,.int .i64 (r.2.2:Nat)])∧OwnT w' base v r.1∧Below base w w'
theorem refPost_fault {base:Nat}{w w':World}{r:List Tok × Int × Nat}{code:Int}{j:Nat}(hr:r=([],code,j))(hb:Below base w w'):RefPost base w r (.returned (.tuple #[.slice none 0 0,.int .i64 code,.int .i64 (j:Nat)])) w':=by
 subst hr
 exact ⟨_,rfl,ownT_nil _ _,hb⟩
theorem refPost_end {base:Nat}{w w':World}{r:List Tok × Int × Nat}{v:Value}{l:List Tok}(hr:r=(l,0,0))(ho:OwnT w' base v l)(hb:Below base w w'):RefPost base w r (.returned (.tuple #[v,.int .i64 0,.int .i64 0])) w':=by
 subst hr
 exact ⟨_,rfl,ho,hb⟩
theorem refTokens_long (s sg:ByteArray)(w:World)(hs:s.size≤9223372036854775807)(h:8192<s.size) :
  Calls Tryz.prog 35 #[.string s,.string sg] w fun e w'=>e=.returned (.tuple #[.slice none 0 0,.int .i64 16,.int .i64 8192])∧w=w':=by
 go_enter Tryz.func35,Tryz.ntmps35
 go_wp2
 exact bodyPost_ret (v:=.tuple #[.slice none 0 0,.int .i64 16,.int .i64 8192]) (by simp [results,Tryz.results35,go_sem]) rfl ⟨rfl,rfl⟩
set_option maxHeartbeats 1600000 in
set_option maxRecDepth 100000 in
theorem refTokens_short (s sg:ByteArray)(w:World)(hT:Tabs w)(h:s.size≤8192)(hg:sg.size≤9223372036854775807) :
  Calls Tryz.prog 35 #[.string s,.string sg] w (RefPost w.heap.size w (lexFrom s sg 0 [])):=by
 have HGAP:=Lib.hid (fun (j:Nat) W hj=>behind_any s j j W rfl (by omega) hj)
 have HTOK:=Lib.hid (fun (j:Nat) W (hb:Below w.heap.size w W) hj=>one_any s sg j j W (Tabs.below hT (Nat.le_refl _) hb) rfl hj (by omega) hg)
 clear hT
 go_enter Tryz.func35,Tryz.ntmps35
 go_wp2
 go_loopw [7,8] (fun lv at' wr=>Below w.heap.size w wr∧∃ (j:Nat) (l:List Tok),j≤s.size∧at'=.int .i64 j∧OwnT wr w.heap.size lv l∧l.length≤2048∧lexFrom s sg 0 []=lexFrom s sg j l) (fun lv _ _=>2048-lenOf lv)
 case atStart=>exact ⟨Below.refl _ _,0,[],Nat.zero_le _,rfl,ownT_nil _ _,by decide,rfl⟩
 case round =>
  obtain ⟨hb,j,l,hj,rfl,ho,hll,hr⟩:=hrel
  obtain ⟨a,c,rfl⟩:=ho.form
  have HB:=Lib.hid hb
  have HJ:=Lib.hid hr
  have HO:=Lib.hid ho
  have hg1:=gap_le (bts s) j (by rw [bts_length];exact hj)
  rw [bts_length] at hg1
  clear hb hr ho
  by_cases h2:l.length=2048
  · have HM:=Lib.hid (lexFrom_many (s:=s) (sg:=sg) (j:=j) h2)
    go_wp2_with fail
    refine (HGAP.out j _ hj).mono ?_
    rintro e W1 ⟨rfl,rfl⟩
    have t2:((l.length:Int)==2048)=true:=by simp;omega
    clear h2
    go_wp2
    exact bodyPost_ret (v:=.tuple #[.slice none 0 0,.int .i64 16,.int .i64 (gap (bts s) j:Nat)]) (by simp [results,Tryz.results35,go_sem]) rfl (refPost_fault (HJ.out.trans HM.out) HB.out)
  · have HM:=Lib.hid (lexFrom_step (s:=s) (sg:=sg) (j:=j) (l:=l) (by omega))
    have t2:((l.length:Int)==2048)=false:=by simp;omega
    go_wp2_with fail
    refine (HGAP.out j _ hj).mono ?_
    rintro e W1 ⟨rfl,rfl⟩
    generalize gap (bts s) j=k at hg1 HM ⊢
    go_wp2_with fail
    refine (HTOK.out k _ HB.out hg1).mono ?_
    rintro e W3 ⟨hone,hb3⟩
    have HB3:=Lib.hid (HB.out.trans (hb3.mono HB.out.size))
    have HO3:=Lib.hid (HO.out.below hb3 (Nat.le_refl _))
    clear hb3
    generalize hq:tok okU (amg sg) (bts s) k=q at HM hone ⊢
    obtain _|⟨t,e2⟩:=q
    · clear hq
      obtain ⟨x0,x2,x3,S,rfl⟩:=hone
      go_wp2
      exact bodyPost_ret (v:=.tuple #[.slice none 0 0,.int .i64 10,.int .i64 (k:Nat)]) (by simp [results,Tryz.results35,go_sem]) rfl (refPost_fault (HJ.out.trans HM.out) (HB3.out.alloc HB3.out.size _))
    · have he2:=tok_le (by rw [bts_length];exact hg1) hq
      rw [bts_length] at he2
      obtain rfl:=hone
      obtain ⟨i0,hi0,hz0,hz1,hz2⟩:=info_parts tok_info
      have I1:=Lib.hid hi0
      have I2:=Lib.hid hz0
      have I3:=Lib.hid hz1
      have I4:=Lib.hid hz2
      clear hq hi0 hz0 hz1 hz2
      by_cases hkd:t.kind=0
      · have tk:(t.kind==0)=true:=by simp [hkd]
        have HE:=Lib.hid (HM.out.trans (if_pos hkd))
        clear hkd
        go_wp2_with (at_builtin;refine wpList_append_own _ rfl (.tmp 33) (.tmp 35) 66 rfl w.heap.size 97 i0 _ 3 32 Tryz.underlying66 I1.out I2.out I3.out I4.out rfl (by decide) _ l.length (toksCells l) rfl (HO3.out.below (((Below.refl W3.heap.size W3).alloc (Nat.le_refl _) _).alloc (by simp) _) (Nat.le_refl _)) ⟨W3.heap.size+1,0,none⟩ 1 1 (tokCells t) rfl rfl (tokCells_new _ t _ (by simp)) (tokCells_one t) (by unfold maxLen;omega) (by omega) (by have:=HB3.out.size;simp;omega) ?_;intro v4 W4 hown4 hg4 hx;clear hx;obtain ⟨kk,hb4⟩:=grown_new HO3.out HB3.out hg4;have HB4:=Lib.hid hb4;have HO4:=Lib.hid (OwnT.snoc hown4);clear hown4 hg4 hb4)
        exact bodyPost_ret (v:=.tuple #[v4,.int .i64 0,.int .i64 0]) (by simp [results,Tryz.results35,go_sem]) rfl (refPost_end (HJ.out.trans HE.out) HO4.out HB4.out)
      · have tk:(t.kind==0)=false:=by simp [hkd]
        have HE:=Lib.hid (HM.out.trans (if_neg hkd))
        clear hkd
        go_wp2_with (at_builtin;refine wpList_append_own _ rfl (.tmp 33) (.tmp 35) 66 rfl w.heap.size 97 i0 _ 3 32 Tryz.underlying66 I1.out I2.out I3.out I4.out rfl (by decide) _ l.length (toksCells l) rfl (HO3.out.below (((Below.refl W3.heap.size W3).alloc (Nat.le_refl _) _).alloc (by simp) _) (Nat.le_refl _)) ⟨W3.heap.size+1,0,none⟩ 1 1 (tokCells t) rfl rfl (tokCells_new _ t _ (by simp)) (tokCells_one t) (by unfold maxLen;omega) (by omega) (by have:=HB3.out.size;simp;omega) ?_;intro v4 W4 hown4 hg4 hx;clear hx;obtain ⟨kk,hb4⟩:=grown_new HO3.out HB3.out hg4;have HB4:=Lib.hid hb4;have HO4:=Lib.hid (OwnT.snoc hown4);clear hown4 hg4 hb4)
        obtain ⟨a4,c4,rfl⟩:=HO4.out.form
        go_roundw
        case rel=>exact ⟨HB4.out,e2,l++[t],he2,rfl,HO4.out,by simp;omega,HJ.out.trans HE.out⟩
        case measure=>simp [lenOf];omega
theorem refTokens_any (s sg:ByteArray)(w:World)(hT:Tabs w)(hs:s.size≤9223372036854775807)(hg:sg.size≤9223372036854775807) :
  Calls Tryz.prog 35 #[.string s,.string sg] w (RefPost w.heap.size w (toks okU (amg sg) (bts s))):=by
 unfold toks
 rw [bts_length]
 by_cases h:8192<s.size
 · rw [if_pos h]
   exact (refTokens_long s sg w hs h).mono fun e w' ⟨he,hb⟩=>by rw [he];exact refPost_fault rfl (hb▸Below.refl _ _)
 · rw [if_neg h]
   exact refTokens_short s sg w hT (by omega) hg
end Go.Proofs.YtokhnoogkdlidaaGreatDoor
namespace Go.Proofs.YtokhnoogkdlidaaGreatDoor
open Go.ChangeShapes Go.WideShapes Go.ChangeAt Go.RowKit Go.Shelf
def DParsePost (w:World)(x:RRaw × Int × Nat)(e:Ending)(w':World):Prop:=
 ∃ ss es ts sv ev rv,e=.returned (.tuple #[.agg #[sv,ev,rv],.int .i64 x.2.1,.int .i64 (x.2.2:Nat)])∧x.1=rawOf ss es ts∧RawRows w.heap.size w' ss es ts sv ev rv∧Below w.heap.size w w'
theorem dparse_none {w w':World}{x:RRaw × Int × Nat}{code:Int}{p:Nat}(hx:x=(noRaw,code,p))(hb:Below w.heap.size w w') :
  DParsePost w x (.returned (.tuple #[.agg #[.slice none 0 0,.slice none 0 0,.slice none 0 0],.int .i64 code,.int .i64 (p:Nat)])) w':=by
 subst hx
 exact ⟨[],[],[],_,_,_,rfl,rfl,rows_nil _ _,hb⟩
set_option maxRecDepth 100000 in
theorem dparse_fault (s:ByteArray)(w:World)(hT:Tabs w)(hs:s.size≤9223372036854775807)(l:List Tok)(code:Int)(p:Nat)(hr:toks okU (amg idlSigns) (bts s)=(l,code,p))(hc:code≠0) :
  Calls Tryz.prog 16 #[.string s] w (DParsePost w (rawT s)):=by
 have HX:Hid (rawT s=(noRaw,code,p)):=Lib.hid (by unfold rawT;rw [hr];exact if_neg hc)
 have hbA:Below w.heap.size w (w.alloc (.cells #[.slice none 0 0,.slice none 0 0,.slice none 0 0] 68)):=(Below.refl _ _).alloc (Nat.le_refl _) _
 have HZ0:=Lib.hid (heap_alloc_new w (.cells #[.slice none 0 0,.slice none 0 0,.slice none 0 0] 68))
 have HL:=Lib.hid (refTokens_any s idlSigns _ (hT.below (Nat.le_refl _) hbA) hs (by decide))
 rw [hr] at HL
 have HB0:=Lib.hid hbA
 have hlt:w.heap.size<_:=blk_lt HZ0.out
 have hcz:(code != 0)=true:=bne_iff_ne.2 hc
 clear hbA hT hr hc
 go_enter Tryz.func16,Tryz.ntmps16
 go_upto_region 1 with (fail)
 generalize w.alloc (.cells #[.slice none 0 0,.slice none 0 0,.slice none 0 0] 68)=W0 at *
 go_wp2_with fail
 refine HL.out.mono ?_
 rintro e W1 ⟨v,rfl,_,hb1⟩
 have HB1:=Lib.hid (HB0.out.trans (hb1.mono (by omega)))
 have HZ1:=Lib.hid (blk_below HZ0.out hb1 (blk_lt HZ0.out))
 clear hb1
 simp only
 obtain ⟨hz,z0,z1,z2,y0,y1,y2⟩:=blk3 HZ1.out
 go_wp2
 refine post_gen (fun Wf=>Wf.heap[w.heap.size]?=some (.cells #[.slice none 0 0,.slice none 0 0,.slice none 0 0] 68 (0,0))∧Below w.heap.size w Wf) ⟨?_,?_⟩ ?_
 · exact blk_set3 HZ1.out _ _ _
 · exact ((HB1.out.setCell (p:=⟨w.heap.size,0,none⟩) (Nat.le_refl _) _).setCell (p:=⟨w.heap.size,1,none⟩) (Nat.le_refl _) _).setCell (p:=⟨w.heap.size,2,none⟩) (Nat.le_refl _) _
 · rintro Wf ⟨e1,e3⟩
   obtain ⟨_,c0,c1,c2,_⟩:=blk3 e1
   exact bodyPost_ret (v:=.tuple #[.agg #[.slice none 0 0,.slice none 0 0,.slice none 0 0],.int .i64 code,.int .i64 (p:Nat)]) (by simp [results,Tryz.results16,go_sem,c0,c1,c2]) rfl (dparse_none HX.out e3)
end Go.Proofs.YtokhnoogkdlidaaGreatDoor
namespace Go.Proofs.YtokhnoogkdlidaaGreatDoor
open Go.ChangeShapes Go.WideShapes Go.ChangeAt Go.RowKit Go.Shelf
theorem dp_start {W:World}{g c:Nat}{l:List Tok}(hg:g<W.heap.size)(hcells:∀ k,k<l.length * 3→W.cell? ⟨g,k,none⟩=(toksCells l)[k]?)(hc:l.length≤c)(hm:c≤maxLen)(he:Ends l)(hb:∀ t ∈ l,∀ z ∈ t.text,0≤z∧z≤255)(hf:l.length≤2048) :
  DpS (W.alloc (.cells #[.slice (some ⟨g,0,none⟩) l.length c,.int .i64 0,.int .i64 0,.int .i64 0] 94)) W.heap.size g c l (.go l):=by
 have hbel:Below W.heap.size W (W.alloc (.cells #[.slice (some ⟨g,0,none⟩) l.length c,.int .i64 0,.int .i64 0,.int .i64 0] 94)):=(Below.refl _ _).alloc (Nat.le_refl _) _
 refine ⟨?_,by rw [Nat.sub_self];rfl,Nat.le_refl _,Nat.lt_of_lt_of_le hg hbel.size,Nat.ne_of_lt hg,fun k hk=>(hbel.cell (p:=⟨g,k,none⟩) hg).trans (hcells k hk),⟨hc,hm⟩,he,hb,hf⟩
 rw [heap_alloc_new W _,Nat.sub_self]
 rfl
def DParseAt (P g c:Nat)(l:List Tok)(A:Nat)(w:World)(X:Res RRaw)(wr:World):Prop:=
 ∃ (ss:List (RRec × Value)) (es:List (RCho × Value)) (ts:List Tok) (sv ev rv:Value) (st1:Sto),RawAt A wr ss es ts sv ev rv∧DpS wr P g c l st1 ∧
  wr.heap[w.heap.size]?=some (.cells #[.slice none 0 0,.slice none 0 0,.slice none 0 0] 68 (0,0))∧Below w.heap.size w wr∧ss.length+es.length+ts.length+st1.left≤l.length∧X=st1.rd (schemaL (rawOf ss es ts))
theorem dpart_deep {P g c A:Nat}{l:List Tok}{st:Sto}{w W Wp W4:World}{row:Option Nat}(hr:DpS W P g c l st)(hx:Below w.heap.size w W)(hwA:w.heap.size≤A)(hb:Below W.heap.size W Wp)(hg4:Wp.grownBy W4 row)(hrow:∀ k,row=some k→A≤k)(hP:P<A)(hg:g<A)(hA:A≤W.heap.size)(i:Nat)(v:Value) :
  DpS (W4.setCell ⟨A,i,none⟩ v) P g c l st∧Below w.heap.size w (W4.setCell ⟨A,i,none⟩ v)∧Below A W (W4.setCell ⟨A,i,none⟩ v):=by
 have h:Below A W (W4.setCell ⟨A,i,none⟩ v):=((hb.mono hA).grown hg4 (Nat.le_trans hA hb.size) hrow).setCell (p:=⟨A,i,none⟩) (Nat.le_refl _) v
 exact ⟨hr.deep h hP hg,hx.trans (h.mono hwA),h⟩
theorem dparse_struct {P g c A:Nat}{l:List Tok}{st:Sto}{w w1 W Wp W4:World}{ss:List (RRec × Value)}{es:List (RCho × Value)}{ts:List Tok}{sv ev rv v v4:Value}{s:RRec}{X:Res RRaw}
  (ha:RawAt A W ss es ts sv ev rv) (hr:DpS W P g c l st) (hz:W.heap[w.heap.size]?=some (.cells #[.slice none 0 0,.slice none 0 0,.slice none 0 0] 68 (0,0))) (hx:Below w.heap.size w W) (hwA:w.heap.size<A)
  (ho:W.ownsRow w1.heap.size 114 8 v s.fields.length (fieldsCells s.fields)) (hw1:A+1≤w1.heap.size) (hb:Below W.heap.size W Wp) (hg4:Wp.grownBy W4 sv.ownBlock)
  (ho4:W4.ownsRow (A+1) 102 3 v4 (ss.length+1) (recsCells ss++recCells (s,v))) (hP:P<A) (hg:g<A) (hc:ss.length+es.length+ts.length+st.left+1≤l.length)
  (hX:X=st.rd (schemaL ⟨(ss.map Prod.fst)++[s],es.map Prod.fst,ts⟩)):DParseAt P g c l A w X (W4.setCell ⟨A,0,none⟩ v4):=by
 obtain ⟨h1,h2,h3⟩:=dpart_deep hr hx (Nat.le_of_lt hwA) hb hg4 (fun k hk=>by have:=(ownsRow_lt ha.structs k hk).1;omega) hP hg (Nat.le_of_lt (blk_lt ha.blk)) 0 v4
 have ho3:Wp.ownsRow (A+1) 114 8 v s.fields.length (fieldsCells s.fields):=ownsRow_base (row_below hb ho) hw1
 refine ⟨ss++[(s,v)],es,ts,v4,ev,rv,st,RawAt.struct (p:=(s,v)) (ha.fell hb) ho3 hg4 ho4,h1,(h3.block _ hwA).trans hz,h2,?_,?_⟩
 · simp;omega
 · rw [hX];simp [rawOf]
theorem dparse_enum {P g c A:Nat}{l:List Tok}{st:Sto}{w w1 W Wp W4:World}{ss:List (RRec × Value)}{es:List (RCho × Value)}{ts:List Tok}{sv ev rv v v4:Value}{s:RCho}{X:Res RRaw}
  (ha:RawAt A W ss es ts sv ev rv) (hap:∀ k,rv.ownBlock=some k→k<w1.heap.size) (hr:DpS W P g c l st) (hz:W.heap[w.heap.size]?=some (.cells #[.slice none 0 0,.slice none 0 0,.slice none 0 0] 68 (0,0))) (hx:Below w.heap.size w W) (hwA:w.heap.size<A)
  (ho:W.ownsRow w1.heap.size 97 3 v s.names.length (toksCells s.names)) (hw1:A+1≤w1.heap.size) (hb:Below W.heap.size W Wp) (hg4:Wp.grownBy W4 ev.ownBlock)
  (ho4:W4.ownsRow (A+1) 105 3 v4 (es.length+1) (chosCells es++choCells (s,v))) (hP:P<A) (hg:g<A) (hc:ss.length+es.length+ts.length+st.left+1≤l.length)
  (hX:X=st.rd (schemaL ⟨ss.map Prod.fst,(es.map Prod.fst)++[s],ts⟩)):DParseAt P g c l A w X (W4.setCell ⟨A,1,none⟩ v4):=by
 obtain ⟨h1,h2,h3⟩:=dpart_deep hr hx (Nat.le_of_lt hwA) hb hg4 (fun k hk=>by have:=(ownsRow_lt ha.enums k hk).1;omega) hP hg (Nat.le_of_lt (blk_lt ha.blk)) 1 v4
 have ho3:Wp.ownsRow (A+1) 97 3 v s.names.length (toksCells s.names):=ownsRow_base (row_below hb ho) hw1
 refine ⟨ss,es++[(s,v)],ts,sv,v4,rv,st,RawAt.enum (p:=(s,v)) (ha.fell hb) ho3 (fun k hk e=>?_) hg4 ho4,h1,(h3.block _ hwA).trans hz,h2,?_,?_⟩
 · have a1:=(ownsRow_lt ho k hk).1
   have a2:=hap k e
   omega
 · simp;omega
 · rw [hX];simp [rawOf]
end Go.Proofs.YtokhnoogkdlidaaGreatDoor
namespace Go.Proofs.YtokhnoogkdlidaaGreatDoor
open Go.ChangeShapes Go.WideShapes Go.ChangeAt Go.RowKit Go.Shelf
def RtPost (w:World)(M b:Nat)(sv ev rv ssv esv:Value)(m:List NEnt)(l:List Tok)(e:Ending)(w':World):Prop:=
 match rootM m l with
 | .no c p=>e=.returned (.agg #[.int .i64 c,.int .i64 (p:Nat)])∧Exc M w.heap.size w w'
 | .ok r=>e=.returned (.agg #[.int .i64 0,.int .i64 0])∧Exc M w.heap.size w w'∧w'.heap[M]?=some (.cells #[sv,ev,rv,.map (some b),ssv,esv,.int .i64 r] 130 (0,0))
theorem rt_fault {w w':World}{M b:Nat}{sv ev rv ssv esv:Value}{m:List NEnt}{l:List Tok}{c:Int}{p:Nat}(h:rootM m l=.no c p)(hx:Exc M w.heap.size w w'):RtPost w M b sv ev rv ssv esv m l (.returned (.agg #[.int .i64 c,.int .i64 (p:Nat)])) w':=by
 unfold RtPost
 rw [h]
 exact ⟨rfl,hx⟩
set_option maxRecDepth 100000 in
set_option maxHeartbeats 4000000 in
theorem root_any' (w:World){M b root rb:Nat}{sv ev rv ssv esv:Value}{m:List NEnt}{l:List Tok}(hM:MAt w M b sv ev rv m ssv esv root)(hrow:w.ownsRow rb 97 3 rv l.length (toksCells l)) :
  Calls Tryz.prog 52 #[.pointer (some ⟨M,0,none⟩)] w (RtPost w M b sv ev rv ssv esv m l):=by
 obtain ⟨ra,rc,rfl⟩:=ownsRow_form hrow
 have hfew:=row_few hrow
 have hb0:Below w.heap.size w (w.alloc (.cells #[.int .i64 0,.int .i64 0] 38)):=(Below.refl _ _).alloc (Nat.le_refl _) _
 have HB0:=Lib.hid hb0
 have HM0:=Lib.hid (hM.fell hb0)
 have HR0:=Lib.hid (heap_alloc_new w (.cells #[.int .i64 0,.int .i64 0] 38))
 have HROW0:=Lib.hid (row_keep hb0 hrow)
 have hMw:M<w.heap.size:=blk_lt hM.blk
 clear hb0 hM hrow
 go_enter Tryz.func52,Tryz.ntmps52
 go_upto_region 1 with (fail)
 generalize w.alloc (.cells #[.int .i64 0,.int .i64 0] 38)=W0 at *
 obtain ⟨hMl,z0,z1,z2,z3,z4,z5,z6,k4,k5,k6⟩:=HM0.out.cells
 obtain ⟨hRl,r0,r1,p0,p1⟩:=blk2 HR0.out
 cases l with
 | nil =>
  have HS:Hid (rootM m []=.no 17 0):=Lib.hid rfl
  simp only [List.length_nil] at *
  go_wp2
  refine post_gen (fun Wf=>Wf.heap[w.heap.size]?=some (.cells #[.int .i64 17,.int .i64 0] 38 (0,0))∧Exc M w.heap.size w Wf) ⟨blk_set2 HR0.out _ _,((Exc.of_below HB0.out).setCell (p:=⟨w.heap.size,0,none⟩) (.inr (Nat.le_refl _)) _).setCell (p:=⟨w.heap.size,1,none⟩) (.inr (Nat.le_refl _)) _⟩ ?_
  rintro Wf ⟨e1,e2⟩
  obtain ⟨_,c0,c1,_⟩:=blk2 e1
  exact bodyPost_ret (v:=.agg #[.int .i64 17,.int .i64 0]) (by simp [results,Tryz.results52,go_sem,c0,c1]) rfl (rt_fault HS.out e2)
 | cons t r =>
  cases r with
  | cons t2 r2 =>
   obtain ⟨g,c,hv,hc,hg,hcell⟩:=row_el tokCells 3 (fun _=>rfl) HROW0.out 1 (by simp)
   obtain ⟨rfl,rfl⟩:=slice_inj hv
   have x2:W0.cell? ⟨g,5,none⟩=some (.int .i64 t2.place):=hcell 2 (by omega)
   have HS:Hid (rootM m (t::t2::r2)=.no 13 t2.place):=Lib.hid rfl
   obtain ⟨n,hn⟩:∃ n,(t::t2::r2).length=n+2:=⟨r2.length,by simp⟩
   rw [hn] at *
   generalize t2.place=pl at *
   have hn1:(1:Int)<((n+2:Nat):Int):=by omega
   have hn0:¬((n+2:Nat):Int)=0:=by omega
   have hnb:(((n+2:Nat):Int)==0)=false:=by simp;omega
   clear hv hcell HROW0 hn
   go_wp2
   refine post_gen (fun Wf=>Wf.heap[w.heap.size]?=some (.cells #[.int .i64 13,.int .i64 pl] 38 (0,0))∧Exc M w.heap.size w Wf) ⟨blk_set2 HR0.out _ _,((Exc.of_below HB0.out).setCell (p:=⟨w.heap.size,0,none⟩) (.inr (Nat.le_refl _)) _).setCell (p:=⟨w.heap.size,1,none⟩) (.inr (Nat.le_refl _)) _⟩ ?_
   rintro Wf ⟨e1,e2⟩
   obtain ⟨_,c0,c1,_⟩:=blk2 e1
   exact bodyPost_ret (v:=.agg #[.int .i64 13,.int .i64 pl]) (by simp [results,Tryz.results52,go_sem,c0,c1]) rfl (rt_fault HS.out e2)
  | nil =>
   obtain ⟨g,c,hv,hc,hg,hcell⟩:=row_el tokCells 3 (fun _=>rfl) HROW0.out 0 (by simp)
   obtain ⟨rfl,rfl⟩:=slice_inj hv
   have x1:W0.cell? ⟨g,1,none⟩=some (.string (tokT t)):=hcell 1 (by omega)
   have x2:W0.cell? ⟨g,2,none⟩=some (.int .i64 t.place):=hcell 2 (by omega)
   have HS:Hid (rootM m [t]=match lookN m (tokT t) with
    | none=>.no 17 t.place
    | some q=>if q.1=13 then .ok q.2 else .no 17 t.place):=Lib.hid rfl
   obtain ⟨kd,hkd⟩:∃ kd,((lookN m (tokT t)).map Prod.fst).getD 0=kd:=⟨_,rfl⟩
   obtain ⟨rf,hrf⟩:∃ rf,((lookN m (tokT t)).map Prod.snd).getD 0=rf:=⟨_,rfl⟩
   have hlk:∀ w',MapAt w' b (m.map entP)→(Instr.lookup 127 (.map (some b)) (.string (tokT t)) false).run Tryz.prog w'=.ok (.agg #[.int .u8 kd,.int .i64 rf,.int .i64 0]) w':=fun w' h'=>by rw [←hkd,←hrf];exact ents_look1 h' _
   have hl0:=hlk W0 HM0.out.map
   have hl1:=hlk W0.drew HM0.out.map
   have hl2:=hlk (W0.alloc (.cells #[.int .u8 0,.int .i64 0,.int .i64 0] 46)) (HM0.out.map.alloc _)
   have hl3:=hlk (W0.alloc (.cells #[.int .u8 0,.int .i64 0,.int .i64 0] 46)).drew (HM0.out.map.alloc _)
   have HKD:=Lib.hid hkd
   have HRF:=Lib.hid hrf
   simp only [List.length_singleton] at *
   clear hlk hkd hrf hv hcell HROW0
   go_upto_region 6 with (fail)
   go_region
   all_goals
    simp only [Exit.then]
    apply_assumption
    clear hl0 hl1 hl2 hl3
    have hb1:Below W0.heap.size W0 (W0.alloc (.cells #[.int .u8 kd,.int .i64 rf,.int .i64 0] 46)).drew:=((Below.refl _ _).alloc (Nat.le_refl _) _).drew
    have ht1:(W0.alloc (.cells #[.int .u8 kd,.int .i64 rf,.int .i64 0] 46)).drew.heap[W0.heap.size]?=some (.cells #[.int .u8 kd,.int .i64 rf,.int .i64 0] 46 (0,0)):=heap_alloc_new W0 _
    have HB1:=Lib.hid (HB0.out.trans (hb1.mono HB0.out.size))
    have hr1:=blk_below HR0.out hb1 hRl
    have HR1:=Lib.hid hr1
    have hm1:=blk_below HM0.out.blk hb1 hMl
    have HM1:=Lib.hid hm1
    have y2:=(hb1.cell (p:=⟨g,2,none⟩) hg).trans x2
    clear z0 z1 z2 z3 z4 z5 z6 k4 k5 k6 r0 r1 p0 p1 x1 x2 hb1
    generalize (W0.alloc (.cells #[.int .u8 kd,.int .i64 rf,.int .i64 0] 46)).drew=W1 at *
    obtain ⟨hMl1,z0,z1,z2,z3,z4,z5,z6,k4,k5,k6⟩:=maker_cells hm1
    obtain ⟨hRl1,r0,r1,p0,p1⟩:=blk2 hr1
    obtain ⟨_,t0,t1,t2,_⟩:=blk3 ht1
    clear hm1 hr1 ht1
    by_cases hk:kd=13
    · have HV:Hid (rootM m [t]=.ok rf):=Lib.hid (by
       rw [HS.out]
       cases hl:lookN m (tokT t) with
       | none =>
        have h1:=HKD.out
        rw [hl,hk] at h1
        exact absurd h1 (by decide)
       | some q =>
        have h1:q.1=kd:=by rw [←HKD.out,hl];rfl
        have h2:q.2=rf:=by rw [←HRF.out,hl];rfl
        show (if q.1=13 then _ else _)=_
        rw [if_pos (by rw [h1,hk]),h2])
      subst hk
      go_wp2
      refine post_gen (fun Wf=>Wf.heap[w.heap.size]?=some (.cells #[.int .i64 0,.int .i64 0] 38 (0,0))∧Exc M w.heap.size w Wf∧Wf.heap[M]?=some (.cells #[sv,ev,.slice (some ⟨g,0,none⟩) 1 rc,.map (some b),ssv,esv,.int .i64 rf] 130 (0,0))) ⟨?_,?_,?_⟩ ?_
      · exact blk_set2 (blk_set_ne HR1.out (p:=⟨M,6,none⟩) (by show M≠_;omega) _) _ _
      · exact (((Exc.of_below HB1.out).setCell (p:=⟨M,6,none⟩) (.inl rfl) _).setCell (p:=⟨w.heap.size,0,none⟩) (.inr (Nat.le_refl _)) _).setCell (p:=⟨w.heap.size,1,none⟩) (.inr (Nat.le_refl _)) _
      · exact blk_set_ne (blk_set_ne ((blk_set HM1.out 6 _).trans rfl) (by show w.heap.size≠M;omega) _) (by show w.heap.size≠M;omega) _
      · rintro Wf ⟨e1,e2,e3⟩
        obtain ⟨_,c0,c1,_⟩:=blk2 e1
        exact bodyPost_ret (v:=.agg #[.int .i64 0,.int .i64 0]) (by simp [results,Tryz.results52,go_sem,c0,c1]) rfl (by unfold RtPost;rw [HV.out];exact ⟨rfl,e2,e3⟩)
    · have HV:Hid (rootM m [t]=.no 17 t.place):=Lib.hid (by
       rw [HS.out]
       cases hl:lookN m (tokT t) with
       | none=>rfl
       | some q =>
        have h1:q.1=kd:=by rw [←HKD.out,hl];rfl
        show (if q.1=13 then _ else _)=_
        rw [if_neg (by rw [h1];exact hk)])
      have hkb:((kd:Int)==13)=false:=by simp;omega
      have hkb2:((kd:Int) != 13)=true:=by simp;omega
      have hkn:¬(kd:Int)=13:=by omega
      go_wp2
      refine post_gen (fun Wf=>Wf.heap[w.heap.size]?=some (.cells #[.int .i64 17,.int .i64 t.place] 38 (0,0))∧Exc M w.heap.size w Wf) ⟨blk_set2 HR1.out _ _,((Exc.of_below HB1.out).setCell (p:=⟨w.heap.size,0,none⟩) (.inr (Nat.le_refl _)) _).setCell (p:=⟨w.heap.size,1,none⟩) (.inr (Nat.le_refl _)) _⟩ ?_
      rintro Wf ⟨e1,e2⟩
      obtain ⟨_,c0,c1,_⟩:=blk2 e1
      exact bodyPost_ret (v:=.agg #[.int .i64 17,.int .i64 t.place]) (by simp [results,Tryz.results52,go_sem,c0,c1]) rfl (rt_fault HV.out e2)
end Go.Proofs.YtokhnoogkdlidaaGreatDoor
