/-
  The document's own parser: bad, is, want, in whatever state. Conditions: those that each theorem names.
-/
import Derived.Test.YtokhnoogkdlidaaGreatDoorPkP3
import Derived.Test.YtokhnoogkdlidaaGreatDoorPkP5
import Derived.Test.YtokhnoogkdlidaaGreatDoorPkP7
import Derived.Test.YtokhnoogkdlidaaGreatDoorPkP11
import Derived.Test.YtokhnoogkdlidaaGreatDoorPkP18
import Derived.Deep.Cut
import Derived.Lib.Strings
namespace Go.Proofs.YtokhnoogkdlidaaGreatDoor
open Go.ChangeShapes Go.WideShapes Go.ChangeAt Go.RowKit Go.Shelf
theorem goodN_no (zs:List Int)(h:(digs zs).length<1∨20<(digs zs).length∨(1<(digs zs).length∧(digs zs).getD 0 0=48)∨zs=[45,48]∨∃ j,j<(digs zs).length∧isDig ((digs zs).getD j 0)=false):goodN zs=false:=by
 cases hg:goodN zs
 · rfl
 · obtain ⟨a1,a2,a3,a4,a5⟩:=(goodN_iff zs).1 hg
   rcases h with h|h|h|h|⟨j,h1,h2⟩
   · omega
   · omega
   · exact absurd h a3
   · exact absurd h a4
   · rw [a5 j h1] at h2
     cases h2
theorem goodN_yes (zs:List Int)(h1:1≤(digs zs).length)(h2:(digs zs).length≤20)(h3:¬(1<(digs zs).length∧(digs zs).getD 0 0=48))(h4:zs≠[45,48])(h5:∀ j,j<(digs zs).length→isDig ((digs zs).getD j 0)=true):goodN zs=true:=
 (goodN_iff zs).2 ⟨h1,h2,h3,h4,h5⟩
theorem bts_extract (s:ByteArray):bts (s.extract 1 s.size)=(bts s).drop 1:=by
 unfold bts
 rw [Lib.extract_data,List.take_of_length_le (by simp)]
 simp
theorem extract_size (s:ByteArray):(s.extract 1 s.size).size=s.size-1:=by
 rw [←bts_length,bts_extract,List.length_drop,bts_length]
theorem bts_toList (s:ByteArray)(l:List UInt8):(s.toList==l)=decide (bts s=l.map fun b=>(b.toNat:Int)):=by
 rw [ByteArray.toList_eq,Bool.eq_iff_iff,beq_iff_eq,decide_eq_true_iff]
 unfold bts
 constructor
 · intro h;rw [h]
 · intro h
   have hinj:∀ (a b:List UInt8),a.map (fun b=>(b.toNat:Int))=b.map (fun b=>(b.toNat:Int))→a=b:=by
    intro a
    induction a with
    | nil=>intro b hb;cases b with
     | nil=>rfl
     | cons=>cases hb
    | cons x r ih=>intro b hb;cases b with
     | nil=>cases hb
     | cons y q =>
      simp only [List.map_cons,List.cons.injEq] at hb
      have hxy:x=y:=UInt8.toNat_inj.1 (by omega)
      rw [ih q hb.2,hxy]
   exact hinj _ _ h
set_option maxRecDepth 100000 in
theorem rgood_minus (s:ByteArray)(w:World)(hs:s.size≤281474976710656)(h:stA (bts s) (isC 45) 0=true) :
  Calls Tryz.prog 85 #[.string s] w fun e w'=>e=.returned (.bool (goodN (bts s)))∧w=w':=by
 have h1:1≤s.size:=by have:=stA_lt h;rw [bts_length] at this;omega
 have H:=Lib.hid (of_decide_eq_true (show decide ((bts s).getD 0 0=45)=true from stA_p h))
 have HDX:=Lib.hid (show digs (bts s)=bts (s.extract 1 s.size) from by unfold digs;rw [if_pos h,bts_extract])
 obtain ⟨r,hr⟩:∃ r,goodN (bts s)=r:=⟨_,rfl⟩
 have HR:=Lib.hid hr
 rw [hr]
 clear h hr
 go_enter Tryz.func85,Tryz.ntmps85
 go_wp2_with fail
 refine (at_any s _ 0 _ rfl).mono ?_
 rintro e w1 ⟨rfl,rfl⟩
 rw [H.out]
 go_upto_region 4 with (fail)
 obtain ⟨d,hd⟩:∃ d,d=s.extract 1 s.size:=⟨_,rfl⟩
 rw [←hd]
 have HD:Hid (digs (bts s)=bts d):=by rw [hd];exact HDX.out
 have hdl:d.size≤281474976710656:=by rw [hd,extract_size];omega
 have HMS:=Lib.hid (show s.size=d.size+1 from by rw [hd,extract_size];omega)
 clear hd HDX
 by_cases c1:d.size<1
 · have t1:decide ((d.size:Int)<1)=true:=by simp;omega
   have HF:=Lib.hid (HR.out.symm.trans (goodN_no (bts s) (by rw [HD.out,bts_length];exact .inl c1)))
   go_wp2
   go_ret
   exact ⟨ret_bool HF.out.symm,rfl⟩
 have t1:decide ((d.size:Int)<1)=false:=by simp;omega
 have p1:0<d.size:=by omega
 by_cases c2:20<d.size
 · have t2:decide (20<(d.size:Int))=true:=by simp;omega
   have HF:=Lib.hid (HR.out.symm.trans (goodN_no (bts s) (by rw [HD.out,bts_length];exact .inr (.inl c2))))
   go_wp2
   go_ret
   exact ⟨ret_bool HF.out.symm,rfl⟩
 have t2:decide (20<(d.size:Int))=false:=by simp;omega
 have HG0:=Lib.hid (bts_get p1)
 have t6:(s.toList==[45,48])=decide (bts s=[45,48]):=bts_toList s _
 have H6:=Lib.hid t6
 clear t6
 by_cases c6:bts s=[45,48]
 · have HF:=Lib.hid (HR.out.symm.trans (goodN_no (bts s) (.inr (.inr (.inr (.inl c6))))))
   have t6:(s.toList==[45,48])=true:=by rw [H6.out,decide_eq_true c6]
   have t3:decide (1<(d.size:Int))=false:=by
    have h1:=congrArg List.length c6
    have h2:=HMS.out
    rw [bts_length] at h1
    simp at h1 ⊢
    omega
   clear c6
   go_wp2
   go_ret
   exact ⟨ret_bool HF.out.symm,rfl⟩
 have t6:(s.toList==[45,48])=false:=by rw [H6.out,decide_eq_false c6]
 have HC6:=Lib.hid c6
 clear c6
 by_cases c3:1<d.size∧(bts d).getD 0 0=48
 · have HF:=Lib.hid (HR.out.symm.trans (goodN_no (bts s) (by rw [HD.out,bts_length];exact .inr (.inr (.inl c3)))))
   have t3:decide (1<(d.size:Int))=true:=by simp;omega
   have c4:=c3.2
   rw [HG0.out] at c4
   have t4:((d[0].toNat:Int)==48)=true:=by simp only [beq_iff_eq];exact c4
   clear c3 c4
   go_wp2
   go_ret
   exact ⟨ret_bool HF.out.symm,rfl⟩
 have HC3:=Lib.hid c3
 have key:∀ b3 b4:Bool,decide (1<(d.size:Int))=b3→((d[0].toNat:Int)==48)=b4→(b3&&b4)=false:=by
  intro b3 b4 h3 h4
  rw [←h3,←h4]
  cases hb:decide (1<(d.size:Int))
  · rfl
  · cases hb4:((d[0].toNat:Int)==48)
    · rfl
    · exfalso
      refine HC3.out ⟨?_,?_⟩
      · have:=of_decide_eq_true hb
        omega
      · rw [HG0.out]
        exact beq_iff_eq.1 hb4
 clear c3
 obtain ⟨b3,t3⟩:∃ b,decide (1<(d.size:Int))=b:=⟨_,rfl⟩
 obtain ⟨b4,t4⟩:∃ b,((d[0].toNat:Int)==48)=b:=⟨_,rfl⟩
 have KB:=Lib.hid (key b3 b4 t3 t4)
 clear key
 cases b3
 all_goals
  try (rw [Bool.true_and] at KB;have kb:=KB.out;subst kb)
  go_wp2
  go_loop [4] (fun i=>∃ k:Nat,k≤d.size∧i=.int .i64 k∧∀ j,j<k→isDig ((bts d).getD j 0)=true) (fun i=>d.size-(intOf i).toNat)
  case atStart=>exact ⟨0,Nat.zero_le _,rfl,fun j hj=>absurd hj (Nat.not_lt_zero j)⟩
  case round =>
   obtain ⟨k,hk,rfl,hall⟩:=hrel
   have HA:=Lib.hid hall
   clear hall
   by_cases hlt:k<d.size
   · have HGK:=Lib.hid (bts_get hlt)
     cases hq:isDig ((d[k].toNat:Int))
     · have HQ:=Lib.hid hq
       have HF:=Lib.hid (HR.out.symm.trans (goodN_no (bts s) (by rw [HD.out,bts_length];exact .inr (.inr (.inr (.inr ⟨k,hlt,by rw [HGK.out];exact HQ.out⟩))))))
       clear hq
       go_wp2_with fail
       refine (rdigit_any _ _).mono ?_
       rintro e w2 ⟨rfl,rfl⟩
       rw [HQ.out]
       go_wp2
       go_ret
       exact ⟨ret_bool HF.out.symm,rfl⟩
     · have HQ:=Lib.hid hq
       clear hq
       go_wp2_with fail
       refine (rdigit_any _ _).mono ?_
       rintro e w2 ⟨rfl,rfl⟩
       rw [HQ.out]
       go_wp2
       go_round
       case rel=>exact ⟨k+1,by omega,by go_num,fun j hj=>by
        rcases Nat.lt_or_ge j k with h|h
        · exact HA.out j h
        · obtain rfl:j=k:=by omega
          rw [HGK.out]
          exact HQ.out⟩
       case measure=>simp [intOf];omega
   · have hke:k=d.size:=by omega
     have HF:=Lib.hid (HR.out.symm.trans (goodN_yes (bts s) (by rw [HD.out,bts_length];omega) (by rw [HD.out,bts_length];omega) (by rw [HD.out,bts_length];exact HC3.out) HC6.out (by rw [HD.out,bts_length];exact fun j hj=>HA.out j (by omega))))
     clear hke
     go_wp2
     go_ret
     exact ⟨ret_bool HF.out.symm,rfl⟩
set_option maxRecDepth 100000 in
theorem rgood_plain (s:ByteArray)(w:World)(hs:s.size≤281474976710656)(h:stA (bts s) (isC 45) 0=false) :
  Calls Tryz.prog 85 #[.string s] w fun e w'=>e=.returned (.bool (goodN (bts s)))∧w=w':=by
 have t0:((bts s).getD 0 0==45)=false:=by
  by_cases hi:0<s.size
  · rw [stA_of (by rw [bts_length];exact hi)] at h
    exact h
  · rw [bts_end (by omega)]
    rfl
 have HDX:=Lib.hid (show digs (bts s)=bts s from by unfold digs;rw [if_neg (by rw [h];decide)])
 obtain ⟨r,hr⟩:∃ r,goodN (bts s)=r:=⟨_,rfl⟩
 have HR:=Lib.hid hr
 rw [hr]
 clear h hr
 go_enter Tryz.func85,Tryz.ntmps85
 go_wp2_with fail
 refine (at_any s _ 0 _ rfl).mono ?_
 rintro e w1 ⟨rfl,rfl⟩
 generalize (bts s).getD 0 0=z0 at t0 ⊢
 go_upto_region 4 with (fail)
 obtain ⟨d,hd⟩:∃ d,d=s:=⟨_,rfl⟩
 have HD:Hid (digs (bts s)=bts d):=by rw [hd];exact HDX.out
 subst hd
 have hdl:=hs
 have HMS:Hid (d.size=d.size):=rfl
 clear HDX
 by_cases c1:d.size<1
 · have t1:decide ((d.size:Int)<1)=true:=by simp;omega
   have HF:=Lib.hid (HR.out.symm.trans (goodN_no (bts d) (by rw [HD.out,bts_length];exact .inl c1)))
   go_wp2
   go_ret
   exact ⟨ret_bool HF.out.symm,rfl⟩
 have t1:decide ((d.size:Int)<1)=false:=by simp;omega
 have p1:0<d.size:=by omega
 by_cases c2:20<d.size
 · have t2:decide (20<(d.size:Int))=true:=by simp;omega
   have HF:=Lib.hid (HR.out.symm.trans (goodN_no (bts d) (by rw [HD.out,bts_length];exact .inr (.inl c2))))
   go_wp2
   go_ret
   exact ⟨ret_bool HF.out.symm,rfl⟩
 have t2:decide (20<(d.size:Int))=false:=by simp;omega
 have HG0:=Lib.hid (bts_get p1)
 have t6:(d.toList==[45,48])=decide (bts d=[45,48]):=bts_toList d _
 have H6:=Lib.hid t6
 clear t6
 by_cases c6:bts d=[45,48]
 · have HF:=Lib.hid (HR.out.symm.trans (goodN_no (bts d) (.inr (.inr (.inr (.inl c6))))))
   have t6:(d.toList==[45,48])=true:=by rw [H6.out,decide_eq_true c6]
   exfalso
   have h1:=congrArg (fun l=>digs l) c6
   have h2:=congrArg List.length (HD.out.symm.trans h1)
   have h3:=congrArg List.length c6
   rw [h3] at h2
   exact absurd h2 (by decide)
 have t6:(d.toList==[45,48])=false:=by rw [H6.out,decide_eq_false c6]
 have HC6:=Lib.hid c6
 clear c6
 by_cases c3:1<d.size∧(bts d).getD 0 0=48
 · have HF:=Lib.hid (HR.out.symm.trans (goodN_no (bts d) (by rw [HD.out,bts_length];exact .inr (.inr (.inl c3)))))
   have t3:decide (1<(d.size:Int))=true:=by simp;omega
   have c4:=c3.2
   rw [HG0.out] at c4
   have t4:((d[0].toNat:Int)==48)=true:=by simp only [beq_iff_eq];exact c4
   clear c3 c4
   go_wp2
   go_ret
   exact ⟨ret_bool HF.out.symm,rfl⟩
 have HC3:=Lib.hid c3
 have key:∀ b3 b4:Bool,decide (1<(d.size:Int))=b3→((d[0].toNat:Int)==48)=b4→(b3&&b4)=false:=by
  intro b3 b4 h3 h4
  rw [←h3,←h4]
  cases hb:decide (1<(d.size:Int))
  · rfl
  · cases hb4:((d[0].toNat:Int)==48)
    · rfl
    · exfalso
      refine HC3.out ⟨?_,?_⟩
      · have:=of_decide_eq_true hb
        omega
      · rw [HG0.out]
        exact beq_iff_eq.1 hb4
 clear c3
 obtain ⟨b3,t3⟩:∃ b,decide (1<(d.size:Int))=b:=⟨_,rfl⟩
 obtain ⟨b4,t4⟩:∃ b,((d[0].toNat:Int)==48)=b:=⟨_,rfl⟩
 have KB:=Lib.hid (key b3 b4 t3 t4)
 clear key
 cases b3
 all_goals
  try (rw [Bool.true_and] at KB;have kb:=KB.out;subst kb)
  go_wp2
  go_loop [4] (fun i=>∃ k:Nat,k≤d.size∧i=.int .i64 k∧∀ j,j<k→isDig ((bts d).getD j 0)=true) (fun i=>d.size-(intOf i).toNat)
  case atStart=>exact ⟨0,Nat.zero_le _,rfl,fun j hj=>absurd hj (Nat.not_lt_zero j)⟩
  case round =>
   obtain ⟨k,hk,rfl,hall⟩:=hrel
   have HA:=Lib.hid hall
   clear hall
   by_cases hlt:k<d.size
   · have HGK:=Lib.hid (bts_get hlt)
     cases hq:isDig ((d[k].toNat:Int))
     · have HQ:=Lib.hid hq
       have HF:=Lib.hid (HR.out.symm.trans (goodN_no (bts d) (by rw [HD.out,bts_length];exact .inr (.inr (.inr (.inr ⟨k,hlt,by rw [HGK.out];exact HQ.out⟩))))))
       clear hq
       go_wp2_with fail
       refine (rdigit_any _ _).mono ?_
       rintro e w2 ⟨rfl,rfl⟩
       rw [HQ.out]
       go_wp2
       go_ret
       exact ⟨ret_bool HF.out.symm,rfl⟩
     · have HQ:=Lib.hid hq
       clear hq
       go_wp2_with fail
       refine (rdigit_any _ _).mono ?_
       rintro e w2 ⟨rfl,rfl⟩
       rw [HQ.out]
       go_wp2
       go_round
       case rel=>exact ⟨k+1,by omega,by go_num,fun j hj=>by
        rcases Nat.lt_or_ge j k with h|h
        · exact HA.out j h
        · obtain rfl:j=k:=by omega
          rw [HGK.out]
          exact HQ.out⟩
       case measure=>simp [intOf];omega
   · have hke:k=d.size:=by omega
     have HF:=Lib.hid (HR.out.symm.trans (goodN_yes (bts d) (by rw [HD.out,bts_length];omega) (by rw [HD.out,bts_length];omega) (by rw [HD.out,bts_length];exact HC3.out) HC6.out (by rw [HD.out,bts_length];exact fun j hj=>HA.out j (by omega))))
     clear hke
     go_wp2
     go_ret
     exact ⟨ret_bool HF.out.symm,rfl⟩
theorem rgood_any (s:ByteArray)(w:World)(hs:s.size≤281474976710656) :
  Calls Tryz.prog 85 #[.string s] w fun e w'=>e=.returned (.bool (goodN (bts s)))∧w=w':=by
 cases h:stA (bts s) (isC 45) 0
 · exact rgood_plain s w hs h
 · exact rgood_minus s w hs h
end Go.Proofs.YtokhnoogkdlidaaGreatDoor
namespace Go.Proofs.YtokhnoogkdlidaaGreatDoor
open Go.ChangeShapes Go.WideShapes Go.ChangeAt Go.RowKit Go.Shelf
theorem full_length (t:Tok):t.text.length+(if t.kind=3 then 2 else 0)=(full t).length:=by
 unfold full
 split<;>simp
theorem text_bd {ok:List Int→Bool}{sg:Int→Bool}{s:ByteArray}{i e:Nat}{t:Tok}(_:Fine ok sg t)(h:sub (bts s) i e=full t):∀ z ∈ t.text,0≤z∧z≤255:=by
 intro z hz
 have h1:z ∈ full t:=by
  unfold full
  split
  · exact List.mem_cons_of_mem _ (List.mem_append_left _ hz)
  · exact hz
 rw [←h] at h1
 have h2:z ∈ bts s:=List.mem_of_mem_drop (List.mem_of_mem_take h1)
 obtain ⟨j,hj,rfl⟩:=List.mem_iff_getElem.1 h2
 have:=bts_bd s j
 rw [List.getD,List.getElem?_eq_getElem hj] at this
 exact this
theorem bts_inj {a b:ByteArray}(h:bts a=bts b):a=b:=by
 have h1:=bts_toList a b.data.toList
 have h2:a.toList=b.data.toList:=by
  have:(a.toList==b.data.toList)=true:=by rw [h1];exact decide_eq_true h
  exact beq_iff_eq.1 this
 rw [ByteArray.toList_eq] at h2
 exact bytes_inj h2
theorem bts_part (s:ByteArray)(i j:Nat):bts (s.extract i j)=sub (bts s) i j:=by
 unfold bts sub
 rw [Lib.extract_data]
 simp
theorem chain_all {s:ByteArray}{sg:Int→Bool}:∀ (l:List Tok) (i:Nat),i≤(bts s).length→Left okU sg (bts s) i l→∀ t ∈ l,Fine okU sg t∧(full t).length≤s.size∧∀ z ∈ t.text,0≤z∧z≤255
 | [],_,_,_,t,h=>by cases h
 | a::r,i,hi,hl,t,h=>by
  obtain ⟨f1,_,f3,f4,_,f6⟩:=left_step hi hl
  rcases List.mem_cons.1 h with rfl|h
  · refine ⟨f1,?_,text_bd f1 f4⟩
    rw [bts_length] at f3
    omega
  · exact chain_all r _ f3 f6 t h
end Go.Proofs.YtokhnoogkdlidaaGreatDoor
namespace Go.Proofs.YtokhnoogkdlidaaGreatDoor
open Go.ChangeShapes Go.WideShapes Go.ChangeAt Go.RowKit Go.Shelf
noncomputable def made37:Code:=(Tryz.f5.body.bind (findRegion 37)).getD .skip
set_option maxRecDepth 100000 in
theorem put_wp {Q:Exit→Act→World→Prop}{c:Act}{W:World}{a:Option Addr}{b i n c0 R k T G:Nat}{rn fv:Value}{f:SFld}{xs:List Value}(hc:FrF b i a n c0 R k T G c)(hG:FldAt W G f)(hk:k≤16)
  (hR:W.heap[R]?=some (.cells #[rn,fv] 52 (0,0))) (hrow:W.ownsRow (R+1) 49 5 fv k xs)
  (hQ:∀ c' w' fv',FrD b i a n c0 R k c'→Below R W w'→w'.heap[R]?=some (.cells #[rn,fv'] 52 (0,0))→w'.ownsRow (R+1) 49 5 fv' (k+1) (xs++sfldCells f)→Q .normal c' w') :
  Code.wp Tryz.prog made37 Q c W:=by
 obtain ⟨u,rfl⟩:=frf_lit hc
 have HQ:=Lib.hid hQ
 have HR:=Lib.hid hR
 have HROW:=Lib.hid hrow
 obtain ⟨fva,fvc,rfl⟩:=ownsRow_form hrow
 obtain ⟨hRl,r0,r1,s0,s1⟩:=blk2 hR
 obtain ⟨_,g0,g1,g2,g3,g4,_⟩:=blk5 hG
 obtain ⟨i0,hi0,hzz0,hzz1,hzz2⟩:=info_parts sfld_info
 have I1:=Lib.hid hi0
 have I2:=Lib.hid hzz0
 have I3:=Lib.hid hzz1
 have I4:=Lib.hid hzz2
 have HBN:=Lib.hid (heap_alloc_new W (.cells #[.string f.name,.int .u8 f.kind,.int .i64 f.ref,.int .i64 f.lists,.int .u64 f.dflt] 49))
 have HBA:=Lib.hid ((Below.refl W.heap.size W).alloc (Nat.le_refl _) (.cells #[.string f.name,.int .u8 f.kind,.int .i64 f.ref,.int .i64 f.lists,.int .u64 f.dflt] 49))
 clear hc hQ hR hrow hG hi0 hzz0 hzz1 hzz2
 conv=>arg 2;whnf
 go_wp2_with (at_builtin;refine wpList_append_own _ rfl (.tmp 229) (.tmp 231) 50 rfl (R+1) 49 i0 _ 5 48 Tryz.underlying50 I1.out I2.out I3.out I4.out rfl (by decide) _ k xs rfl (row_keep HBA.out HROW.out) _ 1 1 (sfldCells f) rfl rfl (World.news_of_block HBN.out) (by intro u hu;simp [sfldCells] at hu;rcases hu with rfl|rfl|rfl|rfl|rfl<;>rfl) (by unfold maxLen;omega) (by omega) (by simp;omega) ?_;intro v4 W8 hown4 hg4 hx;clear hx;obtain ⟨a4,m4,rfl⟩:=ownsRow_form hown4;obtain ⟨s1',s2',s3',s4'⟩:=step2 (Below.refl R W) HR.out HROW.out HBA.out hg4 hown4;obtain ⟨_,d0,d1,e0,e1⟩:=blk2 s4';have S1:=Lib.hid s1';have S2:=Lib.hid s2';have S3:=Lib.hid s3';clear s1' s2' s3' s4' hown4 hg4)
 exact HQ.out _ _ _ ⟨rfl,rfl,rfl,rfl,rfl,rfl,rfl,rfl,rfl,rfl⟩ S1.out S2.out S3.out
theorem keep1 {w:World}{g i:Nat}{p:Addr}{v x:Value}(h:w.cell? p=some v)(hp:p.block≠g):(w.setCell ⟨g,i,none⟩ x).cell? p=some v:=
 (World.cell?_of_block (Below.heap_setCell _ _ _ _ hp)).trans h
theorem row_under {w w':World}{B base:Nat}{e:TypeId}{size:Nat}{v:Value}{n:Nat}{xs:List Value}(h:Below B w w')(ho:w.ownsRow base e size v n xs)(hB:∀ k,v.ownBlock=some k→k<B):w'.ownsRow base e size v n xs:=by
 obtain ⟨hl,h'⟩:=ho
 refine ⟨hl,?_⟩
 rcases h' with h1|⟨g',cap',cur,hv,h1,hg',h2⟩
 · exact .inl h1
 · subst hv
   exact .inr ⟨g',cap',cur,rfl,h1,(h.block g' (hB g' (by simp [Value.ownBlock]))).trans hg',h2⟩
def NumsAre (p:Plan)(kd rf ls n:Nat)(sv ev:Value)(rt:Nat)(W:World):Prop:=
 ∀ W',Below W.heap.size W W'→Calls Tryz.prog 13 #[.agg #[sv,ev,.int .i64 rt],.agg #[.int .u8 kd,.int .i64 rf,.int .i64 ls],.int .u64 n] W' fun e w'=>e=.returned (.int .u64 (numP (cntOf p rf) kd n:Nat))∧Below W'.heap.size W' w'
set_option maxRecDepth 100000 in
set_option maxHeartbeats 4000000 in
theorem dflt_wp {Q:Exit→Act→World→Prop}{c:Act}{w W:World}{p:Plan}{f:PF}{a:Option Addr}{b i n c0 R k T G B off kd rf ls rt:Nat}{nm:ByteArray}{rn fv sv ev:Value}{xs:List Value}(hc:FrF b i a n c0 R k T G c)(hf:PFAt w a k f B off)(hbw:Below w.heap.size w W)(hkn:k<n)(hn:n≤16)
  (ht:MTyAt W T kd rf ls) (hkd:kd≤255) (hG:FldAt W G ⟨nm,kd,rf,ls,0⟩) (hTG:T<G) (hRT:R<T) (hbR:b+2<R) (hBR:B<R)
  (hout:W.heap[b+2]?=some (.cells #[sv,ev,.int .i64 rt] 30 (0,0))) (hnum:isNumP kd ls=true→NumsAre p kd rf ls f.dflt sv ev rt W)
  (hR:W.heap[R]?=some (.cells #[rn,fv] 52 (0,0))) (hrow:W.ownsRow (R+1) 49 5 fv k xs) (hrT:∀ g,fv.ownBlock=some g→g<T)
  (hQ:∀ c' w' fv',FrD b i a n c0 R k c'→Below R W w'→w'.heap[R]?=some (.cells #[rn,fv'] 52 (0,0))→w'.ownsRow (R+1) 49 5 fv' (k+1) (xs++sfldCells ⟨nm,kd,rf,ls,if isNumP kd ls=true then numP (cntOf p rf) kd f.dflt else 0⟩)→Q .normal c' w') :
  Code.wp Tryz.prog made35 Q c W:=by
 obtain ⟨u,rfl⟩:=frf_lit hc
 obtain ⟨_,t0,t1,t2,_⟩:=blk3 ht
 have HIS:=Lib.hid (isnum_any kd rf ls)
 have HQ:=Lib.hid hQ
 have HNUM:=Lib.hid hnum
 have HT:=Lib.hid ht
 have HG:=Lib.hid hG
 have HOUT:=Lib.hid hout
 have HR:=Lib.hid hR
 have HROW:=Lib.hid hrow
 have HRT:=Lib.hid hrT
 obtain ⟨rfl,hB,x0,x1,x2,x3,x4,l0,l1,l2,l3,l4⟩:=hf
 have y4:=(hbw.cell (p:=⟨B,off+k * 5+4,none⟩) hB).trans x4
 have HY4:=Lib.hid y4
 have hGW:G<W.heap.size:=blk_lt hG
 have hki:(k:Int)<n:=by omega
 clear hc hQ hnum ht hG hout hR hrow hrT x0 x1 x2 x3 x4 l0 l1 l2 l3 l4 hbw hB y4
 conv=>arg 2;whnf
 go_wp2_with fail
 refine (HIS.out _ hkd).mono ?_
 rintro e W1 ⟨rfl,hb1⟩
 have HB1:=Lib.hid hb1
 have hG1:G<W1.heap.size:=Nat.lt_of_lt_of_le hGW hb1.size
 have t0':=(hb1.cell (p:=⟨T,0,none⟩) (by show T<_;omega)).trans t0
 clear hb1 t0 t1 t2
 generalize hin:isNumP kd ls=bb at *
 have HIN:=Lib.hid hin
 clear hin
 cases bb with
 | false =>
  go_upto_region 37 with (fail)
  refine put_wp (fv:=fv) (rn:=rn) ⟨rfl,rfl,rfl,rfl,rfl,rfl,rfl,rfl,rfl,rfl,rfl,rfl⟩ (blk_below HG.out HB1.out (blk_lt HG.out)) (by omega) (blk_below HR.out HB1.out (blk_lt HR.out)) (row_keep HB1.out HROW.out) ?_
  intro c' w' fv' h1 h2 h3 h4
  exact HQ.out c' w' fv' h1 ((HB1.out.mono (by omega)).trans h2) h3 h4
 | true =>
  have hN0:=HNUM.out rfl
  unfold NumsAre at hN0
  have HN:=Lib.hid hN0
  clear hN0
  have HG1:=Lib.hid (blk_below HG.out HB1.out (blk_lt HG.out))
  have HR1:=Lib.hid (blk_below HR.out HB1.out (blk_lt HR.out))
  have HROW1:=Lib.hid (row_keep HB1.out HROW.out)
  have ho1:=blk_below HOUT.out HB1.out (blk_lt HOUT.out)
  have ht1:=blk_below HT.out HB1.out (blk_lt HT.out)
  have y4:=(HB1.out.cell (p:=⟨B,off+k * 5+4,none⟩) (by show B<_;omega)).trans HY4.out
  obtain ⟨_,o0,o1,o2,_⟩:=blk3 ho1
  obtain ⟨_,t0,t1,t2,_⟩:=blk3 ht1
  have HB1D:=Lib.hid HB1.out.drew
  have hbs:b+2<W1.heap.size:=blk_lt ho1
  have hOne:b+2≠G:=by omega
  have hTne:T≠G:=by omega
  have hBne:B≠G:=by omega
  have hTs:T<W1.heap.size:=by omega
  have hBs:B<W1.heap.size:=by omega
  have HCC:=Lib.hid (show ∀ W3,Below W1.heap.size W1 W3→W3.cell? ⟨b+2,0,none⟩=some sv∧W3.cell? ⟨b+2,1,none⟩=some ev∧W3.cell? ⟨b+2,2,none⟩=some (.int .i64 rt)∧W3.cell? ⟨T,0,none⟩=some (.int .u8 kd)∧W3.cell? ⟨T,1,none⟩=some (.int .i64 rf)∧W3.cell? ⟨T,2,none⟩=some (.int .i64 ls)∧W3.cell? ⟨B,off+k * 5+4,none⟩=some (.int .u64 (f.dflt:Nat)) from fun W3 hb3=>⟨(hb3.cell (p:=⟨b+2,0,none⟩) hbs).trans o0,(hb3.cell (p:=⟨b+2,1,none⟩) hbs).trans o1,(hb3.cell (p:=⟨b+2,2,none⟩) hbs).trans o2,(hb3.cell (p:=⟨T,0,none⟩) hTs).trans t0,(hb3.cell (p:=⟨T,1,none⟩) hTs).trans t1,(hb3.cell (p:=⟨T,2,none⟩) hTs).trans t2,(hb3.cell (p:=⟨B,off+k * 5+4,none⟩) hBs).trans y4⟩)
  clear ho1 ht1 t0'
  go_upto_region 36 with (fail)
  go_region_held3 (fun w'=>w'.cell? ⟨b+2,0,none⟩=some sv∧w'.cell? ⟨b+2,1,none⟩=some ev∧w'.cell? ⟨b+2,2,none⟩=some (.int .i64 rt)∧w'.cell? ⟨T,0,none⟩=some (.int .u8 kd)∧w'.cell? ⟨T,1,none⟩=some (.int .i64 rf)∧w'.cell? ⟨T,2,none⟩=some (.int .i64 ls)∧w'.cell? ⟨B,off+k * 5+4,none⟩=some (.int .u64 (f.dflt:Nat)))
   (first|assumption|(with_reducible exact ⟨keep1 k0 hOne,keep1 k1 hOne,keep1 k2 hOne,keep1 k3 hTne,keep1 k4 hTne,keep1 k5 hTne,keep1 k6 hBne⟩)|go_keep)
   (first|(go_at_call 13;(with_reducible refine (HN.out W1.drew HB1D.out).mono ?_);rintro e W3 ⟨rfl,hb3⟩;have hbW:Below W1.heap.size W1 W3:=bfact_drew hb3;obtain ⟨k0,k1,k2,k3,k4,k5,k6⟩:=HCC.out W3 hbW;have hGb:=blk_below HG1.out hbW hG1;have HGB:=Lib.hid hGb;obtain ⟨_,g0,g1,g2,g3,g4,j0,j1,j2,j3,j4⟩:=blk5 hGb;clear hGb g0 g1 g2 g3 j0 j1 j2 j3)|(go_at_call 13;(with_reducible refine (HN.out W1 HB1.out).mono ?_);rintro e W3 ⟨rfl,hb3⟩;have hbW:Below W1.heap.size W1 W3:=hb3;obtain ⟨k0,k1,k2,k3,k4,k5,k6⟩:=HCC.out W3 hbW;have hGb:=blk_below HG1.out hbW hG1;have HGB:=Lib.hid hGb;obtain ⟨_,g0,g1,g2,g3,g4,j0,j1,j2,j3,j4⟩:=blk5 hGb;clear hGb g0 g1 g2 g3 j0 j1 j2 j3))
  all_goals
   go_upto_region 37 with (fail)
   have hbn:Below G W1 (W3.setCell ⟨G,4,none⟩ (.int .u64 (numP (cntOf p rf) kd f.dflt:Nat))):=(hbW.mono (Nat.le_of_lt hG1)).setCell (p:=⟨G,4,none⟩) (Nat.le_refl _) _
   refine put_wp (fv:=fv) (rn:=rn) (xs:=xs) (f:=⟨nm,kd,rf,ls,numP (cntOf p rf) kd f.dflt⟩) ⟨rfl,rfl,rfl,rfl,rfl,rfl,rfl,rfl,rfl,rfl,rfl,rfl⟩ ((blk_set HGB.out 4 _).trans rfl) (by omega) (blk_below HR1.out hbn (by omega)) (row_under hbn HROW1.out (fun g hg=>by have:=HRT.out g hg;omega)) ?_
   intro c' w' fv' h1 h2 h3 h4
   exact HQ.out c' w' fv' h1 (((HB1.out.mono (by omega)).trans (hbn.mono (by omega))).trans h2) h3 h4
end Go.Proofs.YtokhnoogkdlidaaGreatDoor
namespace Go.Proofs.YtokhnoogkdlidaaGreatDoor
open Go.ChangeShapes Go.WideShapes Go.ChangeAt Go.RowKit Go.Shelf
theorem step_ok {α:Type}{f:List Tok→Res α}{r r':List Tok}{a:α}(h:f r=.ok a r'):(Sto.go r).step f=.go r':=by
 simp only [Sto.step,h]
theorem step_no {α:Type}{f:List Tok→Res α}{r:List Tok}{c:Int}{p:Nat}(h:f r=.no c p):(Sto.go r).step f=.fell c p:=by
 simp only [Sto.step,h]
def badS (code:Int):Sto→Sto
 | .go r=>.fell code (hd r).place
 | .fell c p=>.fell c p
theorem dbad_any (w:World)(P g c:Nat)(l:List Tok)(st:Sto)(code:Int)(hcode:code≠0)(h:DpS w P g c l st) :
  Calls Tryz.prog 42 #[.pointer (some ⟨P,0,none⟩),.int .i64 code] w fun e w'=>e=.returned (.tuple #[])∧DpS w' P g c l (badS code st)∧Exc P w.heap.size w w':=by
 cases st with
 | go r=>exact (dbad_go w P g c l r code h).mono fun e w' ⟨he,hd',hx⟩=>⟨he,⟨hcode,r,hd'⟩,hx⟩
 | fell c' p =>
  obtain ⟨h0,r,hd'⟩:=h
  have HD:=Lib.hid hd'
  obtain ⟨hP,r0,r1,r2,r3,_⟩:=blk4 hd'.blk
  simp only at r2 r3
  have t0:(c'==0)=false:=by simp [h0]
  have H0:=Lib.hid h0
  clear h0 hd' hcode
  go_enter Tryz.func42,Tryz.ntmps42
  go_wp2
  first|refine bodyPost_end (v:=.tuple #[]) (by simp [results,Tryz.results42,go_sem]) rfl ?_|refine bodyPost_ret (v:=.tuple #[]) (by simp [results,Tryz.results42,go_sem]) rfl ?_
  exact ⟨rfl,⟨H0.out,r,HD.out⟩,Exc.refl _ _ _⟩
theorem dis_any (w:World)(P g c:Nat)(l:List Tok)(st:Sto)(k:Int)(S:ByteArray)(s:List Int)(hs:bts S=s)(h:DpS w P g c l st) :
  Calls Tryz.prog 37 #[.pointer (some ⟨P,0,none⟩),.int .i64 k,.string S] w fun e w'=>e=.returned (.bool (isS k s st))∧Below w.heap.size w w':=by
 cases st with
 | fell c' p =>
  obtain ⟨h0,r,hd'⟩:=h
  obtain ⟨hP,r0,r1,r2,r3,_⟩:=blk4 hd'.blk
  simp only at r2 r3
  have t0:(c'==0)=false:=by simp [h0]
  clear h0 hd' hs
  go_enter Tryz.func37,Tryz.ntmps37
  go_wp2
  go_ret
  exact ⟨rfl,Below.refl _ _⟩
 | go r =>
  have HD:Hid (Dp w P g c l r (0,0)):=Lib.hid h
  have HS:=Lib.hid hs
  obtain ⟨hP,r0,r1,r2,r3,_⟩:=blk4 HD.out.blk
  simp only at r2 r3
  have hf:=fld0
  have hf1:=fld1
  have HI:=Lib.hid (str_eq (hd r).text S (HD.out.byt _ HD.out.mem))
  obtain ⟨b,hb⟩:∃ b,isT k s r=b:=⟨_,rfl⟩
  have HB:=Lib.hid hb
  show Calls _ _ _ w fun e w'=>e=.returned (.bool (isT k s r))∧Below w.heap.size w w'
  rw [hb]
  clear h hs hb
  by_cases hk:(hd r).kind=k
  · have tk:((hd r).kind==k)=true:=by simp [hk]
    have HK:=Lib.hid hk
    clear hk
    go_enter Tryz.func37,Tryz.ntmps37
    go_wp2_with fail
    refine (dhere_any _ P g c l r _ HD.out).mono ?_
    rintro e W1 ⟨rfl,hb1⟩
    have HB1:=Lib.hid hb1
    have HD1:=Lib.hid (HD.out.keep hb1)
    clear hb1
    unfold tokV
    go_wp2_with fail
    refine (dhere_any _ P g c l r _ HD1.out).mono ?_
    rintro e W2 ⟨rfl,hb2⟩
    have HB2:=Lib.hid (HB1.out.trans (hb2.mono HB1.out.size))
    clear hb2
    unfold tokV
    go_wp2
    go_ret
    refine ⟨ret_bool ?_,HB2.out⟩
    rw [←HB.out]
    unfold isT
    rw [HI.out,HS.out,decide_eq_true HK.out,Bool.true_and]
  · have tk:((hd r).kind==k)=false:=by simp [hk]
    have HK:=Lib.hid hk
    clear hk
    go_enter Tryz.func37,Tryz.ntmps37
    go_wp2_with fail
    refine (dhere_any _ P g c l r _ HD.out).mono ?_
    rintro e W1 ⟨rfl,hb1⟩
    have HB1:=Lib.hid hb1
    clear hb1
    unfold tokV
    go_wp2
    go_ret
    refine ⟨ret_bool ?_,HB1.out⟩
    rw [←HB.out]
    unfold isT
    rw [decide_eq_false HK.out,Bool.false_and]
theorem dp_next {w:World}{P g c:Nat}{l r:List Tok}(h:Dp w P g c l r (0,0))(h0:(hd r).kind≠0):Dp (w.setCell ⟨P,1,none⟩ (.int .i64 (((l.length-r.length:Nat):Int)+1))) P g c l r.tail (0,0):=
 h.taken h0 (exc_set w P 1 _) ((blk_set h.blk 1 _).trans rfl)
theorem dwant_any (w:World)(P g c:Nat)(l:List Tok)(st:Sto)(S:ByteArray)(s:List Int)(hs:bts S=s)(h:DpS w P g c l st) :
  Calls Tryz.prog 41 #[.pointer (some ⟨P,0,none⟩),.string S] w fun e w'=>e=.returned (.tuple #[])∧DpS w' P g c l (st.step (wantR s))∧Exc P w.heap.size w w':=by
 have HD:=Lib.hid h
 have HI:=Lib.hid (dis_any w P g c l st 4 S s hs h)
 obtain ⟨b,hb⟩:∃ b,isS 4 s st=b:=⟨_,rfl⟩
 rw [hb] at HI
 cases b
 · have HS:Hid (st.step (wantR s)=badS 11 st):=Lib.hid (by
    cases st with
    | fell c' p=>rfl
    | go r =>
     exact step_no (c:=11) (p:=(hd r).place) (by unfold wantR;rw [if_neg (by rw [show isT 4 s r=false from hb];decide)];rfl))
   rw [HS.out]
   clear hb hs h
   go_enter Tryz.func41,Tryz.ntmps41
   go_wp2_with fail
   refine HI.out.mono ?_
   rintro e W1 ⟨rfl,hb1⟩
   have HX1:=Lib.hid (Exc.of_below (R:=P) hb1)
   have HB:=Lib.hid (dbad_any W1 P g c l st 11 (by decide) (HD.out.keep hb1))
   clear hb1
   go_wp2_with fail
   refine HB.out.mono ?_
   rintro e W2 ⟨rfl,hd2,hx2⟩
   have HD2:=Lib.hid hd2
   have HX2:=Lib.hid (HX1.out.then hx2)
   clear hd2 hx2
   go_wp2
   first|refine bodyPost_end (v:=.tuple #[]) (by simp [results,Tryz.results41,go_sem]) rfl ?_|refine bodyPost_ret (v:=.tuple #[]) (by simp [results,Tryz.results41,go_sem]) rfl ?_
   exact ⟨rfl,HD2.out,HX2.out⟩
 · cases st with
   | fell c' p=>cases hb
   | go r =>
    have hb':isT 4 s r=true:=hb
    have HK:=Lib.hid (show (hd r).kind≠0 by rw [(isT_kind hb').1];decide)
    have HS:Hid ((Sto.go r).step (wantR s)=.go r.tail):=Lib.hid (by
     exact step_ok (by unfold wantR;rw [if_pos hb']))
    rw [HS.out]
    clear hb hb' hs h
    go_enter Tryz.func41,Tryz.ntmps41
    go_wp2_with fail
    refine HI.out.mono ?_
    rintro e W1 ⟨rfl,hb1⟩
    have HX1:=Lib.hid (Exc.of_below (R:=P) hb1)
    have HD1:Hid (Dp W1 P g c l r (0,0)):=Lib.hid (Dp.keep HD.out hb1)
    obtain ⟨hP,r0,r1,r2,r3,s1,s2,s3⟩:=blk4 HD1.out.blk
    have hfew:=HD1.out.few
    have hn:=HD1.out.len
    clear hb1
    go_wp2
    first|refine bodyPost_end (v:=.tuple #[]) (by simp [results,Tryz.results41,go_sem]) rfl ?_|refine bodyPost_ret (v:=.tuple #[]) (by simp [results,Tryz.results41,go_sem]) rfl ?_
    exact ⟨rfl,dp_next HD1.out HK.out,HX1.out.setCell (p:=⟨P,1,none⟩) (.inl rfl) _⟩
end Go.Proofs.YtokhnoogkdlidaaGreatDoor
