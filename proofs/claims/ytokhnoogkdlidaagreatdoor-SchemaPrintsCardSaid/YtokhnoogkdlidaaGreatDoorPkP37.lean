/-
  The package schema's choice, record: are an enum's values, a struct's fields right? Conditions: those that each theorem names; the library's tables hold what the row lists.
-/
import Derived.Test.YtokhnoogkdlidaaGreatDoorPkP1
import Derived.Test.YtokhnoogkdlidaaGreatDoorPkP5
import Derived.Test.YtokhnoogkdlidaaGreatDoorPkP20
import Derived.Test.YtokhnoogkdlidaaGreatDoorPkP29
import Derived.Test.YtokhnoogkdlidaaGreatDoorPkP30
import Derived.Test.YtokhnoogkdlidaaGreatDoorPkP33
import Derived.Deep.Cut
namespace Go.Proofs.YtokhnoogkdlidaaGreatDoor
open Go.ChangeShapes Go.WideShapes Go.ChangeAt Go.RowKit Go.Shelf
theorem blank_no {s:ByteArray}{k:Nat}(h:k<s.size)(hb:stA (bts s) isBlank k=false):((s[k].toNat:Int)==32)=false∧((s[k].toNat:Int)==9)=false∧((s[k].toNat:Int)==10)=false∧((s[k].toNat:Int)==13)=false:=by
 rw [stA_of (by rw [bts_length];exact h),bts_get h] at hb
 have hc:=of_decide_eq_false hb
 simp only [beq_eq_false_iff_ne,ne_eq]
 omega
theorem slash_no {s:ByteArray}{k:Nat}(h:k<s.size)(hc:(s[k].toNat:Int)=47)(h2:slash2 (bts s) k=false):((bts s).getD (k+1) 0==47)=false:=by
 unfold slash2 at h2
 rw [stA_of (by rw [bts_length];exact h),bts_get h,hc,show isC 47 47=true from rfl,Bool.true_and] at h2
 by_cases h3:k+1<s.size
 · rw [stA_of (by rw [bts_length];exact h3)] at h2
   exact h2
 · rw [bts_end (by omega)]
   rfl
theorem slash_yes {s:ByteArray}{k:Nat}(h:k<s.size)(h2:slash2 (bts s) k=true):((s[k].toNat:Int)==47)=true∧((bts s).getD (k+1) 0==47)=true:=by
 unfold slash2 at h2
 rw [Bool.and_eq_true] at h2
 rw [←bts_get h]
 exact ⟨stA_p h2.1,stA_p h2.2⟩
set_option maxRecDepth 100000 in
set_option maxHeartbeats 800000 in
theorem behind_any (s:ByteArray)(x:Int)(i:Nat)(w:World)(hx:x=i)(hs:s.size≤281474976710656)(hi:i≤s.size) :
  Calls Tryz.prog 60 #[.string s,.int .i64 x] w fun e w'=>e=.returned (.int .i64 (gap (bts s) i:Nat))∧w=w':=by
 subst hx
 obtain ⟨r,hr⟩:∃ r,gap (bts s) i=r:=⟨_,rfl⟩
 have HR:=Lib.hid hr
 rw [hr]
 clear hr
 go_enter Tryz.func60,Tryz.ntmps60
 go_wp2
 go_loop [1] (fun j=>∃ k:Nat,k≤s.size∧j=.int .i64 k∧r=gap (bts s) k) (fun j=>s.size-(intOf j).toNat)
 case atStart=>exact ⟨i,hi,rfl,HR.out.symm⟩
 case round =>
  obtain ⟨k,hk,rfl,hj⟩:=hrel
  have HJ:=Lib.hid hj
  clear hj
  by_cases hlt:k<s.size
  · have hgk:=bts_get hlt
    cases hb:stA (bts s) isBlank k
    · cases h2:slash2 (bts s) k
      · have HG:=Lib.hid (gap_stop hb h2)
        obtain ⟨t32,t9,t10,t13⟩:=blank_no hlt hb
        by_cases c47:(s[k].toNat:Int)=47
        · have hd:=slash_no hlt c47 h2
          have t47:((s[k].toNat:Int)==47)=true:=beq_iff_eq.2 c47
          clear hb h2 c47 hgk
          go_wp2_with fail
          refine (at_any s _ (k+1) _ (by omega)).mono ?_
          rintro e w2 ⟨rfl,rfl⟩
          generalize (bts s).getD (k+1) 0=z at hd ⊢
          go_wp2
          go_ret
          exact ⟨ret_int (by rw [HJ.out,HG.out]),rfl⟩
        · have t47:((s[k].toNat:Int)==47)=false:=beq_eq_false_iff_ne.2 c47
          clear hb h2 c47 hgk
          go_wp2
          go_ret
          exact ⟨ret_int (by rw [HJ.out,HG.out]),rfl⟩
      · have HG:=Lib.hid (gap_remark h2)
        obtain ⟨t32,t9,t10,t13⟩:=blank_no hlt hb
        obtain ⟨t47,hd⟩:=slash_yes hlt h2
        have hrl:=runTo_le (bts s) notLf k (by rw [bts_length];exact hk)
        have hrg:=slash2_run h2
        rw [bts_length] at hrl
        clear hb h2 hgk
        go_wp2_with fail
        refine (at_any s _ (k+1) _ (by omega)).mono ?_
        rintro e w2 ⟨rfl,rfl⟩
        generalize (bts s).getD (k+1) 0=z at hd ⊢
        go_wp2
        go_loop [1] (fun j=>∃ m:Nat,k≤m∧m≤s.size∧j=.int .i64 m∧runTo (bts s) notLf k=runTo (bts s) notLf m) (fun j=>s.size-(intOf j).toNat)
        case atStart=>exact ⟨k,Nat.le_refl _,hk,rfl,rfl⟩
        case round =>
         obtain ⟨m,hkm,hm,rfl,hq⟩:=hrel
         have HQ:=Lib.hid hq
         clear hq
         by_cases hml:m<s.size
         · have hgm:=bts_get hml
           by_cases c10:(s[m].toNat:Int)=10
           · have HS:=Lib.hid (runTo_stop (zs:=bts s) (p:=notLf) (i:=m) (by rw [stA_of (by rw [bts_length];exact hml),hgm,c10];rfl))
             have tm:((s[m].toNat:Int) != 10)=false:=by rw [c10];rfl
             have hkm2:k+2≤m:=by have h1:=HQ.out;rw [HS.out] at h1;omega
             clear c10 hgm
             go_wp2
             go_round
             case rel=>exact ⟨m,hm,rfl,by rw [HJ.out,HG.out,HQ.out,HS.out]⟩
             case measure=>simp [intOf];omega
           · have HS:=Lib.hid (runTo_step (zs:=bts s) (p:=notLf) (i:=m) (by rw [stA_of (by rw [bts_length];exact hml),hgm];exact decide_eq_true c10))
             have tm:((s[m].toNat:Int) != 10)=true:=by rw [bne_iff_ne];exact c10
             clear c10 hgm
             go_wp2
             go_round
             case rel=>exact ⟨m+1,by omega,by omega,by go_num,by rw [HQ.out,HS.out]⟩
             case measure=>simp [intOf];omega
         · have HS:=Lib.hid (runTo_stop (zs:=bts s) (p:=notLf) (i:=m) (stA_ge (by rw [bts_length];omega)))
           have hkm2:k+2≤m:=by have h1:=HQ.out;rw [HS.out] at h1;omega
           go_wp2
           go_round
           case rel=>exact ⟨m,hm,rfl,by rw [HJ.out,HG.out,HQ.out,HS.out]⟩
           case measure=>simp [intOf];omega
    · have HG:=Lib.hid (gap_blank hb)
      have hc:(s[k].toNat:Int)=32∨(s[k].toNat:Int)=9∨(s[k].toNat:Int)=10∨(s[k].toNat:Int)=13:=by
       rw [←hgk]
       exact of_decide_eq_true (stA_p hb)
      clear hb hgk
      rcases hc with hc|hc|hc|hc
      · have t32:((s[k].toNat:Int)==32)=true:=by simp only [beq_iff_eq];omega
        clear hc
        go_wp2
        go_round
        case rel=>exact ⟨k+1,by omega,by go_num,HJ.out.trans HG.out⟩
        case measure=>simp [intOf];omega
      · have t32:((s[k].toNat:Int)==32)=false:=by simp only [beq_eq_false_iff_ne,ne_eq];omega
        have t9:((s[k].toNat:Int)==9)=true:=by simp only [beq_iff_eq];omega
        clear hc
        go_wp2
        go_round
        case rel=>exact ⟨k+1,by omega,by go_num,HJ.out.trans HG.out⟩
        case measure=>simp [intOf];omega
      · have t32:((s[k].toNat:Int)==32)=false:=by simp only [beq_eq_false_iff_ne,ne_eq];omega
        have t9:((s[k].toNat:Int)==9)=false:=by simp only [beq_eq_false_iff_ne,ne_eq];omega
        have t10:((s[k].toNat:Int)==10)=true:=by simp only [beq_iff_eq];omega
        clear hc
        go_wp2
        go_round
        case rel=>exact ⟨k+1,by omega,by go_num,HJ.out.trans HG.out⟩
        case measure=>simp [intOf];omega
      · have t32:((s[k].toNat:Int)==32)=false:=by simp only [beq_eq_false_iff_ne,ne_eq];omega
        have t9:((s[k].toNat:Int)==9)=false:=by simp only [beq_eq_false_iff_ne,ne_eq];omega
        have t10:((s[k].toNat:Int)==10)=false:=by simp only [beq_eq_false_iff_ne,ne_eq];omega
        have t13:((s[k].toNat:Int)==13)=true:=by simp only [beq_iff_eq];omega
        clear hc
        go_wp2
        go_round
        case rel=>exact ⟨k+1,by omega,by go_num,HJ.out.trans HG.out⟩
        case measure=>simp [intOf];omega
  · have HG:=Lib.hid (gap_end (zs:=bts s) (i:=k) (by rw [bts_length];omega))
    go_wp2
    go_ret
    exact ⟨ret_int (by rw [HJ.out,HG.out]),rfl⟩
end Go.Proofs.YtokhnoogkdlidaaGreatDoor
namespace Go.Proofs.YtokhnoogkdlidaaGreatDoor
open Go.ChangeShapes Go.WideShapes Go.ChangeAt Go.RowKit Go.Shelf
def OneVal (r:Option (Tok × Nat))(e:Ending):Prop:=
 match r with
 | some (t,k)=>e=.returned (.tuple #[.agg #[.int .i64 t.kind,.string (strOfNums t.text),.int .i64 t.place],.int .i64 (k:Nat),.bool true])
 | none=>∃ (a c k:Int) (S:ByteArray),e=.returned (.tuple #[.agg #[.int .i64 a,.string S,.int .i64 c],.int .i64 k,.bool false])
theorem ext_str (s:ByteArray)(i j:Nat):s.extract i j=strOfNums (sub (bts s) i j):=by
 refine bts_inj ?_
 rw [bts_part,bts_strOf]
 intro z hz
 have h2:z ∈ bts s:=List.mem_of_mem_drop (List.mem_of_mem_take hz)
 obtain ⟨j,hj,rfl⟩:=List.mem_iff_getElem.1 h2
 have:=bts_bd s j
 rw [List.getD,List.getElem?_eq_getElem hj] at this
 exact this
theorem two_new (w:World)(a b:Obj):Below w.heap.size w ((w.alloc a).alloc b):=((Below.refl _ _).alloc (Nat.le_refl _) _).alloc (by rw [World.size_alloc];omega) _
theorem stA_at {s:ByteArray}{p:Int→Bool}(h:p 0=false)(k:Nat):stA (bts s) p k=p ((bts s).getD k 0):=by
 by_cases hk:k<(bts s).length
 · exact stA_of hk
 · rw [stA_ge (by omega),List.getD,List.getElem?_eq_none (by omega)]
   exact h.symm
set_option maxRecDepth 100000 in
theorem one_end (s sg:ByteArray)(x:Int)(i:Nat)(w:World)(hx:x=i)(hi:i=s.size) :
  Calls Tryz.prog 61 #[.string s,.string sg,.int .i64 x] w fun e w'=>OneVal (some (⟨0,[],i⟩,i)) e∧Below w.heap.size w w':=by
 subst hx
 subst hi
 go_enter Tryz.func61,Tryz.ntmps61
 go_wp2
 exact bodyPost_ret (v:=.tuple #[.agg #[.int .i64 0,.string ⟨#[]⟩,.int .i64 s.size],.int .i64 s.size,.bool true]) (by simp [results,Tryz.results61,go_sem]) rfl ⟨rfl,two_new w _ _⟩
set_option maxRecDepth 100000 in
theorem one_name (s sg:ByteArray)(x:Int)(i:Nat)(w:World)(hx:x=i)(hs:s.size≤281474976710656)(h1:stA (bts s) isLet i=true) :
  Calls Tryz.prog 61 #[.string s,.string sg,.int .i64 x] w fun e w'=>OneVal (some (⟨1,sub (bts s) i (runTo (bts s) (fun c=>isLet c||isDig c) i),i⟩,runTo (bts s) (fun c=>isLet c||isDig c) i)) e∧Below w.heap.size w w':=by
 subst hx
 have hi:i<s.size:=by have:=stA_lt h1;rwa [bts_length] at this
 have H1:=Lib.hid (show isLet (s[i].toNat:Int)=true by rw [←bts_get hi];exact stA_p h1)
 have hup:=runTo_le (bts s) (fun c=>isLet c||isDig c) i (by rw [bts_length];omega)
 have hlo:=runTo_ge (bts s) (fun c=>isLet c||isDig c) i
 rw [bts_length] at hup
 obtain ⟨E,hE⟩:∃ E,runTo (bts s) (fun c=>isLet c||isDig c) i=E:=⟨_,rfl⟩
 rw [hE] at hup hlo ⊢
 have HE:=Lib.hid hE
 clear h1 hE
 go_enter Tryz.func61,Tryz.ntmps61
 go_wp2_with fail
 refine (rletter_any _ _).mono ?_
 rintro e w1 ⟨rfl,rfl⟩
 rw [H1.out]
 go_wp2
 go_loop [10] (fun j=>∃ k:Nat,i≤k∧k≤E∧j=.int .i64 k∧runTo (bts s) (fun c=>isLet c||isDig c) k=E) (fun j=>E-(intOf j).toNat)
 case atStart=>exact ⟨i,Nat.le_refl _,hlo,rfl,HE.out⟩
 case round =>
  obtain ⟨k,hik,hkE,rfl,hj⟩:=hrel
  have HJ:=Lib.hid hj
  have HS:=Lib.hid (stA_at (s:=s) (p:=fun c=>isLet c||isDig c) rfl k)
  have HAT:=Lib.hid (fun W=>at_any s k k W rfl)
  generalize (bts s).getD k 0=z at HS HAT
  clear hj
  go_wp2_with fail
  refine (HAT.out _).mono ?_
  rintro e w2 ⟨rfl,rfl⟩
  go_wp2_with fail
  refine (rletter_any _ _).mono ?_
  rintro e w2 ⟨rfl,rfl⟩
  cases hl:isLet z
  · go_wp2_with fail
    refine (HAT.out _).mono ?_
    rintro e w2 ⟨rfl,rfl⟩
    go_wp2_with fail
    refine (rdigit_any _ _).mono ?_
    rintro e w2 ⟨rfl,rfl⟩
    cases hd:isDig z
    · have hkk:k=E:=by
       rw [←HJ.out]
       exact (runTo_stop (by rw [HS.out,hl,hd];rfl)).symm
      subst hkk
      have HX:=Lib.hid (ext_str s i k)
      clear hl hd
      go_upto_region 33 with (fail)
      rw [HX.out]
      go_wp2
      exact bodyPost_ret (v:=.tuple #[.agg #[.int .i64 1,.string (strOfNums (sub (bts s) i k)),.int .i64 i],.int .i64 k,.bool true]) (by simp [results,Tryz.results61,go_sem]) rfl ⟨rfl,two_new w _ _⟩
    · have hst:stA (bts s) (fun c=>isLet c||isDig c) k=true:=by rw [HS.out,hl,hd];rfl
      have HN:=Lib.hid (HJ.out▸(runTo_step hst).symm)
      have hlt:k+1≤E:=by have:=runTo_ge (bts s) (fun c=>isLet c||isDig c) (k+1);rw [HN.out] at this;exact this
      clear hl hd hst
      go_wp2
      go_round
      case rel=>exact ⟨k+1,by omega,hlt,by go_num,HN.out⟩
      case measure=>simp [intOf];omega
  · have hst:stA (bts s) (fun c=>isLet c||isDig c) k=true:=by rw [HS.out,hl];rfl
    have HN:=Lib.hid (HJ.out▸(runTo_step hst).symm)
    have hlt:k+1≤E:=by have:=runTo_ge (bts s) (fun c=>isLet c||isDig c) (k+1);rw [HN.out] at this;exact this
    clear hl hst
    go_wp2
    go_round
    case rel=>exact ⟨k+1,by omega,hlt,by go_num,HN.out⟩
    case measure=>simp [intOf];omega
end Go.Proofs.YtokhnoogkdlidaaGreatDoor
namespace Go.Proofs.YtokhnoogkdlidaaGreatDoor
open Go.ChangeShapes Go.WideShapes Go.ChangeAt Go.RowKit Go.Shelf
theorem numBad_sub (zs:List Int)(i:Nat):numBad zs i=(!goodN (sub zs i (numEnd zs i))||stA zs isLet (numEnd zs i)):=by
 rw [numBad_drop,numBad_text,numEnd_drop zs i,stA_drop]
 have:=sub_drop zs i 0 (numEnd (zs.drop i) 0)
 rw [Nat.add_zero] at this
 rw [this,sub_zero]
theorem numEnd_dig {zs:List Int}{i:Nat}(h:stA zs isDig i=true):numEnd zs i=runTo zs isDig (i+1):=by
 have hm:minusTo zs i=i:=by
  unfold minusTo
  rw [if_neg]
  intro h2
  have a:=of_decide_eq_true (show decide (48≤zs.getD i 0∧zs.getD i 0≤57)=true from stA_p h)
  have b:=of_decide_eq_true (show decide (zs.getD i 0=45)=true from stA_p h2)
  omega
 unfold numEnd
 rw [hm,runTo_step h]
theorem numEnd_min {zs:List Int}{i:Nat}(h:stA zs (isC 45) i=true):numEnd zs i=runTo zs isDig (i+1):=by
 have hm:minusTo zs i=i+1:=by
  unfold minusTo
  rw [if_pos h]
 unfold numEnd
 rw [hm]
set_option maxRecDepth 100000 in
set_option maxHeartbeats 1000000 in
theorem one_num (s sg:ByteArray)(x:Int)(i:Nat)(w:World)(hx:x=i)(hs:s.size≤281474976710656)(h1:stA (bts s) isLet i=false)(h2:begins (bts s) i=true) :
  Calls Tryz.prog 61 #[.string s,.string sg,.int .i64 x] w fun e w'=>OneVal (if numBad (bts s) i=true then none else some (⟨2,sub (bts s) i (numEnd (bts s) i),i⟩,numEnd (bts s) i)) e∧Below w.heap.size w w':=by
 subst hx
 have h3:stA (bts s) isDig i=true∨(stA (bts s) (isC 45) i=true∧stA (bts s) isDig (i+1)=true):=by
  unfold begins at h2
  rw [Bool.or_eq_true,Bool.and_eq_true] at h2
  exact h2
 have hi:i<s.size:=by
  rcases h3 with h|⟨h,_⟩
  · have:=stA_lt h;rwa [bts_length] at this
  · have:=stA_lt h;rwa [bts_length] at this
 have H1:=Lib.hid (show isLet (s[i].toNat:Int)=false by rw [←bts_get hi,←stA_at (p:=isLet) rfl i];exact h1)
 have hNE:numEnd (bts s) i=runTo (bts s) isDig (i+1):=h3.elim numEnd_dig (fun h=>numEnd_min h.1)
 have hup:=runTo_le (bts s) isDig (i+1) (by rw [bts_length];omega)
 have hlo:=runTo_ge (bts s) isDig (i+1)
 rw [bts_length] at hup
 have HB:=Lib.hid (numBad_sub (bts s) i)
 rw [hNE] at HB ⊢
 obtain ⟨E,hE⟩:∃ E,runTo (bts s) isDig (i+1)=E:=⟨_,rfl⟩
 rw [hE] at hup hlo HB ⊢
 obtain ⟨r,hr⟩:∃ r,(if numBad (bts s) i=true then none else some ((⟨2,sub (bts s) i E,i⟩:Tok),E))=r:=⟨_,rfl⟩
 have HRR:=Lib.hid hr
 rw [hr]
 clear hr
 have HE:=Lib.hid hE
 clear hE hNE h1 h2
 rcases h3 with h3|⟨h3,h4⟩
 · have H3:=Lib.hid (show isDig (s[i].toNat:Int)=true by rw [←bts_get hi];exact stA_p h3)
   clear h3
   go_enter Tryz.func61,Tryz.ntmps61
   go_wp2_with fail
   refine (rletter_any _ _).mono ?_
   rintro e w1 ⟨rfl,rfl⟩
   rw [H1.out]
   go_wp2_with fail
   refine (rdigit_any _ _).mono ?_
   rintro e w1 ⟨rfl,rfl⟩
   rw [H3.out]
   go_wp2
   go_loop [10] (fun j=>∃ k:Nat,i+1≤k∧k≤E∧j=.int .i64 k∧runTo (bts s) isDig k=E) (fun j=>E-(intOf j).toNat)
   case atStart=>exact ⟨i+1,Nat.le_refl _,hlo,by go_num,HE.out⟩
   case round =>
    obtain ⟨k,hik,hkE,rfl,hj⟩:=hrel
    have HJ:=Lib.hid hj
    have HS:=Lib.hid (stA_at (s:=s) (p:=isDig) rfl k)
    have HS2:=Lib.hid (stA_at (s:=s) (p:=isLet) rfl k)
    have HAT:=Lib.hid (fun W=>at_any s k k W rfl)
    generalize (bts s).getD k 0=z at HS HS2 HAT
    clear hj
    go_wp2_with fail
    refine (HAT.out _).mono ?_
    rintro e w2 ⟨rfl,rfl⟩
    go_wp2_with fail
    refine (rdigit_any _ _).mono ?_
    rintro e w2 ⟨rfl,rfl⟩
    cases hd:isDig z
    · have hkk:k=E:=by
       rw [←HJ.out]
       exact (runTo_stop (by rw [HS.out,hd])).symm
      subst hkk
      have HX:=Lib.hid (ext_str s i k)
      have HG:=Lib.hid (fun W=>rgood_any (s.extract i k) W (by rw [ByteArray.size_extract];omega))
      rw [bts_part] at HG
      clear hd
      go_upto_region 18 with (fail)
      generalize s.extract i k=S at HX HG ⊢
      obtain rfl:=HX.out
      generalize sub (bts s) i k=T at HX HG HB HRR ⊢
      go_wp2_with fail
      refine (HG.out _).mono ?_
      rintro e w2 ⟨rfl,rfl⟩
      cases hg:goodN T
      · have HBB:=Lib.hid (show numBad (bts s) i=true by rw [HB.out,hg];rfl)
        clear hg
        go_wp2
        exact bodyPost_ret (v:=.tuple #[.agg #[.int .i64 2,.string (strOfNums T),.int .i64 i],.int .i64 k,.bool false]) (by simp [results,Tryz.results61,go_sem]) rfl ⟨(show r=none by rw [←HRR.out,HBB.out];rfl)▸⟨_,_,_,_,rfl⟩,two_new w _ _⟩
      · go_wp2_with fail
        refine (HAT.out _).mono ?_
        rintro e w2 ⟨rfl,rfl⟩
        go_wp2_with fail
        refine (rletter_any _ _).mono ?_
        rintro e w2 ⟨rfl,rfl⟩
        cases hl:isLet z
        · have HBB:=Lib.hid (show numBad (bts s) i=false by rw [HB.out,hg,HS2.out,hl];rfl)
          clear hg hl
          go_wp2
          exact bodyPost_ret (v:=.tuple #[.agg #[.int .i64 2,.string (strOfNums T),.int .i64 i],.int .i64 k,.bool true]) (by simp [results,Tryz.results61,go_sem]) rfl ⟨(show r=some ((⟨2,T,i⟩:Tok),k) by rw [←HRR.out,HBB.out];rfl)▸rfl,two_new w _ _⟩
        · have HBB:=Lib.hid (show numBad (bts s) i=true by rw [HB.out,hg,HS2.out,hl];rfl)
          clear hg hl
          go_wp2
          exact bodyPost_ret (v:=.tuple #[.agg #[.int .i64 2,.string (strOfNums T),.int .i64 i],.int .i64 k,.bool false]) (by simp [results,Tryz.results61,go_sem]) rfl ⟨(show r=none by rw [←HRR.out,HBB.out];rfl)▸⟨_,_,_,_,rfl⟩,two_new w _ _⟩
    · have HN:=Lib.hid (HJ.out▸(runTo_step (by rw [HS.out,hd]:stA (bts s) isDig k=true)).symm)
      have hlt:k+1≤E:=by have:=runTo_ge (bts s) isDig (k+1);rw [HN.out] at this;exact this
      clear hd
      go_wp2
      go_round
      case rel=>exact ⟨k+1,by omega,hlt,by go_num,HN.out⟩
      case measure=>simp [intOf];omega
 · have t45:((s[i].toNat:Int)==45)=true:=by rw [←bts_get hi];exact stA_p h3
   have H3:=Lib.hid (show isDig (s[i].toNat:Int)=false by
    rw [beq_iff_eq] at t45
    rw [t45]
    rfl)
   have HP:=Lib.hid (show isDig ((bts s).getD (i+1) 0)=true from stA_p h4)
   have HA1:=Lib.hid (fun W=>at_any s ((i:Int)+1) (i+1) W (by omega))
   generalize (bts s).getD (i+1) 0=z1 at HP HA1
   clear h3 h4
   go_enter Tryz.func61,Tryz.ntmps61
   go_wp2_with fail
   refine (rletter_any _ _).mono ?_
   rintro e w1 ⟨rfl,rfl⟩
   rw [H1.out]
   go_wp2_with fail
   refine (rdigit_any _ _).mono ?_
   rintro e w1 ⟨rfl,rfl⟩
   rw [H3.out]
   go_wp2_with fail
   refine (HA1.out _).mono ?_
   rintro e w1 ⟨rfl,rfl⟩
   go_wp2_with fail
   refine (rdigit_any _ _).mono ?_
   rintro e w1 ⟨rfl,rfl⟩
   rw [HP.out]
   clear t45
   go_wp2
   go_loop [10] (fun j=>∃ k:Nat,i+1≤k∧k≤E∧j=.int .i64 k∧runTo (bts s) isDig k=E) (fun j=>E-(intOf j).toNat)
   case atStart=>exact ⟨i+1,Nat.le_refl _,hlo,by go_num,HE.out⟩
   case round =>
    obtain ⟨k,hik,hkE,rfl,hj⟩:=hrel
    have HJ:=Lib.hid hj
    have HS:=Lib.hid (stA_at (s:=s) (p:=isDig) rfl k)
    have HS2:=Lib.hid (stA_at (s:=s) (p:=isLet) rfl k)
    have HAT:=Lib.hid (fun W=>at_any s k k W rfl)
    generalize (bts s).getD k 0=z at HS HS2 HAT
    clear hj
    go_wp2_with fail
    refine (HAT.out _).mono ?_
    rintro e w2 ⟨rfl,rfl⟩
    go_wp2_with fail
    refine (rdigit_any _ _).mono ?_
    rintro e w2 ⟨rfl,rfl⟩
    cases hd:isDig z
    · have hkk:k=E:=by
       rw [←HJ.out]
       exact (runTo_stop (by rw [HS.out,hd])).symm
      subst hkk
      have HX:=Lib.hid (ext_str s i k)
      have HG:=Lib.hid (fun W=>rgood_any (s.extract i k) W (by rw [ByteArray.size_extract];omega))
      rw [bts_part] at HG
      clear hd
      go_upto_region 18 with (fail)
      generalize s.extract i k=S at HX HG ⊢
      obtain rfl:=HX.out
      generalize sub (bts s) i k=T at HX HG HB HRR ⊢
      go_wp2_with fail
      refine (HG.out _).mono ?_
      rintro e w2 ⟨rfl,rfl⟩
      cases hg:goodN T
      · have HBB:=Lib.hid (show numBad (bts s) i=true by rw [HB.out,hg];rfl)
        clear hg
        go_wp2
        exact bodyPost_ret (v:=.tuple #[.agg #[.int .i64 2,.string (strOfNums T),.int .i64 i],.int .i64 k,.bool false]) (by simp [results,Tryz.results61,go_sem]) rfl ⟨(show r=none by rw [←HRR.out,HBB.out];rfl)▸⟨_,_,_,_,rfl⟩,two_new w _ _⟩
      · go_wp2_with fail
        refine (HAT.out _).mono ?_
        rintro e w2 ⟨rfl,rfl⟩
        go_wp2_with fail
        refine (rletter_any _ _).mono ?_
        rintro e w2 ⟨rfl,rfl⟩
        cases hl:isLet z
        · have HBB:=Lib.hid (show numBad (bts s) i=false by rw [HB.out,hg,HS2.out,hl];rfl)
          clear hg hl
          go_wp2
          exact bodyPost_ret (v:=.tuple #[.agg #[.int .i64 2,.string (strOfNums T),.int .i64 i],.int .i64 k,.bool true]) (by simp [results,Tryz.results61,go_sem]) rfl ⟨(show r=some ((⟨2,T,i⟩:Tok),k) by rw [←HRR.out,HBB.out];rfl)▸rfl,two_new w _ _⟩
        · have HBB:=Lib.hid (show numBad (bts s) i=true by rw [HB.out,hg,HS2.out,hl];rfl)
          clear hg hl
          go_wp2
          exact bodyPost_ret (v:=.tuple #[.agg #[.int .i64 2,.string (strOfNums T),.int .i64 i],.int .i64 k,.bool false]) (by simp [results,Tryz.results61,go_sem]) rfl ⟨(show r=none by rw [←HRR.out,HBB.out];rfl)▸⟨_,_,_,_,rfl⟩,two_new w _ _⟩
    · have HN:=Lib.hid (HJ.out▸(runTo_step (by rw [HS.out,hd]:stA (bts s) isDig k=true)).symm)
      have hlt:k+1≤E:=by have:=runTo_ge (bts s) isDig (k+1);rw [HN.out] at this;exact this
      clear hd
      go_wp2
      go_round
      case rel=>exact ⟨k+1,by omega,hlt,by go_num,HN.out⟩
      case measure=>simp [intOf];omega
end Go.Proofs.YtokhnoogkdlidaaGreatDoor
namespace Go.Proofs.YtokhnoogkdlidaaGreatDoor
open Go.ChangeShapes Go.WideShapes Go.ChangeAt Go.RowKit Go.Shelf
theorem tells_named (l:List ByteArray)(w:World)(hT:Tabs w)(hs:∀ s ∈ l,s.size≤281474976710656):Tells w 53 #[] Value.string l namedB:=
 ⟨enters_of Tryz.func53 (by kernel_rfl) rfl,fun W x hx hb=>snamed_any x W (hT.below (Nat.le_refl _) hb) (hs x hx)⟩
theorem tells_free (l:List ByteArray)(w:World)(hT:Tabs w)(hs:∀ s ∈ l,s.size≤281474976710656):Tells w 23 #[] Value.string l freeB:=
 ⟨enters_of Tryz.func23 (by kernel_rfl) rfl,fun W x hx hb=>sfree_any x W (hT.below (Nat.le_refl _) hb) (hs x hx)⟩
theorem dupI_neg (o:Option Nat):(decide (dupI o<0))=decide (o=none):=by
 cases o with
 | none=>rfl
 | some k =>
  show decide ((k:Int)<0)=_
  rw [decide_eq_false (by omega),decide_eq_false (by simp)]
set_option maxRecDepth 100000 in
set_option maxHeartbeats 4000000 in
theorem schoice_any (c:SCho)(v:Value)(base:Nat)(w:World)(h:w.ownsRow base 9 1 v c.names.length (strsCells c.names))(hT:Tabs w)(hs:∀ s ∈ c.names,s.size≤281474976710656) :
  Calls Tryz.prog 27 #[.agg #[.string c.name,v]] w fun e w'=>e=.returned (.bool (choiceB c))∧Below w.heap.size w w':=by
 obtain ⟨a,cp,rfl⟩:=ownsRow_form h
 have hfew:=row_few h
 obtain ⟨res,hres⟩:∃ res,choiceB c=res:=⟨_,rfl⟩
 rw [hres]
 unfold choiceB at hres
 have HN:=Lib.hid hres
 have h0:=heap_alloc_new w (.cells #[.string c.name,.slice a c.names.length cp] 55)
 have hb:=(Below.refl w.heap.size w).alloc (Nat.le_refl _) (.cells #[.string c.name,.slice a c.names.length cp] 55)
 have HB:=Lib.hid hb
 have HQ:=Lib.hid h0
 have HR:=Lib.hid (row_keep hb h)
 have HT:=Lib.hid (hT.below (Nat.le_refl _) hb)
 have HS:=Lib.hid hs
 obtain ⟨_,p0,p1,_⟩:=blk2 h0
 clear h0 hb h hT hs hres
 go_enter Tryz.func27,Tryz.ntmps27
 go_upto_region 1 with (fail)
 generalize (w.alloc (.cells #[.string c.name,.slice a c.names.length cp] 55))=W0 at *
 go_wp2_with fail
 by_cases hl:1≤c.names.length∧c.names.length≤32
 · refine (samong_any ((c.names.length:Int)-1) 32 true (decide_eq_true (by omega)) _).mono ?_
   rintro e W1 ⟨rfl,rfl⟩
   have HN2:=Lib.hid (show res=_ from HN.out.symm.trans (by rw [decide_eq_true hl,Bool.true_and]))
   clear HN hl
   go_wp2_with fail
   refine (all_str c.names namedB _ _ W0 53 #[] HR.out (tells_named c.names W0 HT.out HS.out)).mono ?_
   rintro e W1 ⟨rfl,hb1⟩
   have HB1:=Lib.hid (HB.out.trans (hb1.mono HB.out.size))
   have HR1:=Lib.hid (row_keep hb1 HR.out)
   obtain ⟨_,r0,r1,_⟩:=blk2 (blk_below HQ.out hb1 (blk_lt HQ.out))
   clear hb1 p0 p1 HB HR
   cases ha:c.names.all namedB
   · have HE:=Lib.hid (show res=false by rw [HN2.out,ha,Bool.false_and])
     clear HN2 ha
     go_wp2
     go_ret
     exact ⟨ret_bool HE.out.symm,HB1.out⟩
   have HE:=Lib.hid (show res=decide (dup c.names=none) by rw [HN2.out,ha,Bool.true_and])
   clear HN2 ha
   go_wp2_with fail
   refine (again_strS c.names _ _ W1 HR1.out).mono ?_
   rintro e W2 ⟨rfl,hb2⟩
   have HB2:=Lib.hid (HB1.out.trans (hb2.mono HB1.out.size))
   clear hb2
   rw [List.map_id]
   have HD:=Lib.hid (dupI_neg (dup c.names))
   generalize dupI (dup c.names)=d at *
   go_wp2
   go_ret
   exact ⟨ret_bool (by rw [HE.out];exact HD.out),HB2.out⟩
 · refine (samong_any ((c.names.length:Int)-1) 32 false (decide_eq_false (by omega)) _).mono ?_
   rintro e W1 ⟨rfl,rfl⟩
   have HE:=Lib.hid (show res=false by rw [←HN.out,decide_eq_false hl,Bool.false_and])
   clear HN hl
   go_wp2
   go_ret
   exact ⟨ret_bool HE.out.symm,HB.out⟩
def FldFit (f:CFld):Prop:=f.kind≤255∧f.dflt≤18446744073709551615∧f.name.size≤281474976710656
set_option maxRecDepth 100000 in
set_option maxHeartbeats 4000000 in
theorem rec1_any (w:World)(S:Nat){base:Nat}{ss:List (CRec × Value)}{es:List (SCho × Value)}{sv ev:Value}(root:Int)(h:CRows base w ss es sv ev)(hS:w.heap[S]?=some (.cells #[sv,ev,.int .i64 root] 30 (0,0)))(f:CFld)(hf:FldFit f)(hT:Tabs w) :
  Calls Tryz.prog 55 #[.agg #[.string f.name,.int .u8 (f.kind:Nat),.int .i64 f.ref,.int .i64 f.lists,.int .u64 (f.dflt:Nat)],.pointer (some ⟨S,0,none⟩)] w fun e w'=>e=.returned (.bool (fieldB ss.length (es.map Prod.fst) f))∧Below w.heap.size w w':=by
 obtain ⟨sa,sc,ea,ec,rfl,rfl⟩:=h.forms
 have h0:=heap_alloc_new w (.cells #[.string f.name,.int .u8 (f.kind:Nat),.int .i64 f.ref,.int .i64 f.lists,.int .u64 (f.dflt:Nat)] 49)
 have hb:=(Below.refl w.heap.size w).alloc (Nat.le_refl _) (.cells #[.string f.name,.int .u8 (f.kind:Nat),.int .i64 f.ref,.int .i64 f.lists,.int .u64 (f.dflt:Nat)] 49)
 have HB:=Lib.hid hb
 have HC:=Lib.hid (sfield_any _ root (h.below hb) f hf.1 hf.2.1 hf.2.2 (hT.below (Nat.le_refl _) hb))
 obtain ⟨_,p0,p1,p2,_⟩:=blk3 (blk_below hS hb (blk_lt hS))
 obtain ⟨_,q0,q1,q2,q3,q4,_⟩:=blk5c h0
 clear h0 hb h hT hS
 go_enter Tryz.func55,Tryz.ntmps55
 go_upto_region 1 with (fail)
 generalize (w.alloc (.cells #[.string f.name,.int .u8 (f.kind:Nat),.int .i64 f.ref,.int .i64 f.lists,.int .u64 (f.dflt:Nat)] 49))=W0 at *
 go_wp2_with fail
 refine HC.out.mono ?_
 rintro e W1 ⟨rfl,hb1⟩
 have HB1:=Lib.hid (HB.out.trans (hb1.mono HB.out.size))
 clear hb1 p0 p1 p2 q0 q1 q2 q3 q4
 go_wp2
 go_ret
 exact ⟨rfl,HB1.out⟩
theorem tells_rec1 (w:World)(S:Nat){base:Nat}{ss:List (CRec × Value)}{es:List (SCho × Value)}{sv ev:Value}(root:Int)(h:CRows base w ss es sv ev)(hS:w.heap[S]?=some (.cells #[sv,ev,.int .i64 root] 30 (0,0)))(l:List CFld)(hf:∀ f ∈ l,FldFit f)(hT:Tabs w) :
  Tells w 55 #[.pointer (some ⟨S,0,none⟩)] (fun f:CFld=>Value.agg #[.string f.name,.int .u8 (f.kind:Nat),.int .i64 f.ref,.int .i64 f.lists,.int .u64 (f.dflt:Nat)]) l (fieldB ss.length (es.map Prod.fst)):=
 ⟨enters_of Tryz.func55 (by kernel_rfl) rfl,fun W x hx hb=>rec1_any W S root (h.below hb) (blk_below hS hb (blk_lt hS)) x (hf x hx) (hT.below (Nat.le_refl _) hb)⟩
set_option maxRecDepth 100000 in
set_option maxHeartbeats 4000000 in
theorem srecord_any (w:World){base:Nat}{ss:List (CRec × Value)}{es:List (SCho × Value)}{sv ev:Value}(root:Int)(h:CRows base w ss es sv ev)(r:CRec)(v:Value)(hr:w.ownsRow base 49 5 v r.fields.length (cfldsCells r.fields))(hf:∀ f ∈ r.fields,FldFit f)(hT:Tabs w) :
  Calls Tryz.prog 30 #[.agg #[sv,ev,.int .i64 root],.agg #[.string r.name,v]] w fun e w'=>e=.returned (.bool (recordB ss.length (es.map Prod.fst) r))∧Below w.heap.size w w':=by
 obtain ⟨sa,sc,ea,ec,rfl,rfl⟩:=h.forms
 obtain ⟨a,cp,rfl⟩:=ownsRow_form hr
 have hfew:=row_few hr
 obtain ⟨hb,hq1,hq2⟩:=two_blk w #[.slice sa ss.length sc,.slice ea es.length ec,.int .i64 root] #[.string r.name,.slice a r.fields.length cp] 30 52
 obtain ⟨res,hres⟩:∃ res,recordB ss.length (es.map Prod.fst) r=res:=⟨_,rfl⟩
 rw [hres]
 unfold recordB at hres
 have HN:=Lib.hid hres
 have HB:=Lib.hid hb
 have HT:=Lib.hid (tells_rec1 _ w.heap.size root (h.below hb) hq1 r.fields hf (hT.below (Nat.le_refl _) hb))
 have HR:=Lib.hid (row_keep hb hr)
 have HQ2:=Lib.hid hq2
 obtain ⟨_,q0,q1,_⟩:=blk2 hq2
 clear hq1 hq2 hb h hres hr hf hT
 go_enter Tryz.func30,Tryz.ntmps30
 go_upto_region 1 with (fail)
 generalize ((w.alloc (.cells #[.slice sa ss.length sc,.slice ea es.length ec,.int .i64 root] 30)).alloc (.cells #[.string r.name,.slice a r.fields.length cp] 52))=W0 at *
 go_wp2_with fail
 by_cases hl:1≤r.fields.length∧r.fields.length≤16
 · refine (samong_any ((r.fields.length:Int)-1) 16 true (decide_eq_true (by omega)) _).mono ?_
   rintro e W1 ⟨rfl,rfl⟩
   have HN2:=Lib.hid (show res=_ from HN.out.symm.trans (by rw [decide_eq_true hl,Bool.true_and]))
   clear HN hl
   go_wp2_with fail
   refine (all_cfld r.fields (fieldB ss.length (es.map Prod.fst)) _ _ W0 55 _ HR.out HT.out).mono ?_
   rintro e W1 ⟨rfl,hb1⟩
   have HB1:=Lib.hid (HB.out.trans (hb1.mono HB.out.size))
   have HR1:=Lib.hid (row_keep hb1 HR.out)
   obtain ⟨_,r0,r1,_⟩:=blk2 (blk_below HQ2.out hb1 (blk_lt HQ2.out))
   clear hb1 q0 q1 HB HR HT
   cases ha:r.fields.all (fieldB ss.length (es.map Prod.fst))
   · have HE:=Lib.hid (show res=false by rw [HN2.out,ha,Bool.false_and])
     clear HN2 ha
     go_wp2
     go_ret
     exact ⟨ret_bool HE.out.symm,HB1.out⟩
   have HE:=Lib.hid (show res=decide (dup (r.fields.map CFld.name)=none) by rw [HN2.out,ha,Bool.true_and])
   clear HN2 ha
   go_wp2_with fail
   refine (again_cfldS r.fields _ _ W1 HR1.out).mono ?_
   rintro e W2 ⟨rfl,hb2⟩
   have HB2:=Lib.hid (HB1.out.trans (hb2.mono HB1.out.size))
   clear hb2
   have HD:=Lib.hid (dupI_neg (dup (r.fields.map CFld.name)))
   generalize dupI (dup (r.fields.map CFld.name))=d at *
   go_wp2
   go_ret
   exact ⟨ret_bool (by rw [HE.out];exact HD.out),HB2.out⟩
 · refine (samong_any ((r.fields.length:Int)-1) 16 false (decide_eq_false (by omega)) _).mono ?_
   rintro e W1 ⟨rfl,rfl⟩
   have HE:=Lib.hid (show res=false by rw [←HN.out,decide_eq_false hl,Bool.false_and])
   clear HN hl
   go_wp2
   go_ret
   exact ⟨ret_bool HE.out.symm,HB.out⟩
end Go.Proofs.YtokhnoogkdlidaaGreatDoor
