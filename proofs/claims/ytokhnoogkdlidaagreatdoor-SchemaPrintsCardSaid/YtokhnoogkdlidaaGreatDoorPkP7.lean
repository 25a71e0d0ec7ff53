/-
  The package schema's among. Conditions: those that each theorem names.
-/
import Derived.Test.YtokhnoogkdlidaaGreatDoorPkP1
import Derived.Test.YtokhnoogkdlidaaGreatDoorPkP2
import Derived.Test.YtokhnoogkdlidaaGreatDoorPkP3
import Derived.Test.YtokhnoogkdlidaaGreatDoorPkP5
namespace Go.Proofs.YtokhnoogkdlidaaGreatDoor
open Go.RowKit
/-! ### what stands at a place hangs on what follows -/
theorem stA_drop (zs:List Int)(p:Int→Bool)(i j:Nat):stA zs p (i+j)=stA (zs.drop i) p j:=by
 unfold stA
 rw [List.length_drop]
 have e:zs.getD (i+j) 0=(zs.drop i).getD j 0:=by simp [List.getD]
 rw [e]
 by_cases h:i+j<zs.length
 · rw [decide_eq_true h,decide_eq_true (by omega)]
 · rw [decide_eq_false h,decide_eq_false (by omega)]
theorem runTo_drop (zs:List Int)(p:Int→Bool)(i j:Nat):runTo zs p (i+j)=i+runTo (zs.drop i) p j:=by
 unfold runTo
 rw [List.drop_drop]
 omega
theorem sub_drop (zs:List Int)(i a b:Nat):sub zs (i+a) (i+b)=sub (zs.drop i) a b:=by
 unfold sub
 rw [List.drop_drop,show i+b-(i+a)=b-a by omega]
theorem minusTo_drop (zs:List Int)(i:Nat):minusTo zs i=i+minusTo (zs.drop i) 0:=by
 unfold minusTo
 rw [show stA zs (isC 45) i=stA (zs.drop i) (isC 45) 0 from stA_drop zs (isC 45) i 0]
 split<;>omega
theorem numEnd_drop (zs:List Int)(i:Nat):numEnd zs i=i+numEnd (zs.drop i) 0:=by
 unfold numEnd
 rw [minusTo_drop,runTo_drop]
theorem numBad_drop (zs:List Int)(i:Nat):numBad zs i=numBad (zs.drop i) 0:=by
 unfold numBad zeroAhead
 rw [minusTo_drop,runTo_drop,stA_drop,stA_drop,show stA zs (isC 45) i=stA (zs.drop i) (isC 45) 0 from stA_drop zs (isC 45) i 0]
 rw [show i+runTo (zs.drop i) isDig (minusTo (zs.drop i) 0)-(i+minusTo (zs.drop i) 0)=runTo (zs.drop i) isDig (minusTo (zs.drop i) 0)-minusTo (zs.drop i) 0 by omega]
theorem quoEnd_drop (zs:List Int)(i:Nat):quoEnd zs i=i+quoEnd (zs.drop i) 0:=by
 unfold quoEnd
 exact runTo_drop zs isPlain i 1
theorem quoBad_drop (ok:List Int→Bool)(zs:List Int)(i:Nat):quoBad ok zs i=quoBad ok (zs.drop i) 0:=by
 unfold quoBad
 rw [quoEnd_drop,stA_drop,sub_drop]
theorem begins_drop (zs:List Int)(i:Nat):begins zs i=begins (zs.drop i) 0:=by
 unfold begins
 rw [show stA zs isDig i=stA (zs.drop i) isDig 0 from stA_drop zs isDig i 0,show stA zs (isC 45) i=stA (zs.drop i) (isC 45) 0 from stA_drop zs (isC 45) i 0,stA_drop]
def shiftT (i:Nat)(x:Tok × Nat):Tok × Nat:=(⟨x.1.kind,x.1.text,i+x.1.place⟩,i+x.2)
theorem tok_drop (ok:List Int→Bool)(sg:Int→Bool)(zs:List Int)(i:Nat)(hi:i≤zs.length):tok ok sg zs i=(tok ok sg (zs.drop i) 0).map (shiftT i):=by
 have h1:∀ p,stA zs p i=stA (zs.drop i) p 0:=fun p=>stA_drop zs p i 0
 have h2:∀ p,runTo zs p i=i+runTo (zs.drop i) p 0:=fun p=>runTo_drop zs p i 0
 have h3:∀ a b,sub zs (i+a) (i+b)=sub (zs.drop i) a b:=sub_drop zs i
 have h4:∀ b,sub zs i (i+b)=sub (zs.drop i) 0 b:=fun b=>sub_drop zs i 0 b
 have hl:(zs.drop i).length=zs.length-i:=List.length_drop
 by_cases he:i=zs.length
 · rw [tok_end he,tok_end (i:=0) (by omega)]
   rfl
 have hi':i<zs.length:=by omega
 have h0:0<(zs.drop i).length:=by omega
 cases c1:stA (zs.drop i) isLet 0
 rotate_left
 · rw [tok_name hi' (by rw [h1];exact c1),tok_name h0 c1,h2,h4]
   rfl
 cases c2:begins (zs.drop i) 0
 rotate_left
 · rw [tok_num hi' (by rw [h1];exact c1) (by rw [begins_drop];exact c2),tok_num h0 c1 c2,numBad_drop,numEnd_drop,h4]
   cases numBad (zs.drop i) 0<;>rfl
 cases c3:stA (zs.drop i) (isC 34) 0
 rotate_left
 · rw [tok_quo hi' (by rw [h1];exact c1) (by rw [begins_drop];exact c2) (by rw [h1];exact c3),tok_quo h0 c1 c2 c3,quoBad_drop,quoEnd_drop,h3]
   cases quoBad ok (zs.drop i) 0
   · rw [if_neg (by decide),if_neg (by decide),Nat.add_assoc]
     rfl
   · rfl
 cases c4:stA (zs.drop i) sg 0
 · rw [tok_none hi' (by rw [h1];exact c1) (by rw [begins_drop];exact c2) (by rw [h1];exact c3) (by rw [h1];exact c4),tok_none h0 c1 c2 c3 c4]
   rfl
 · rw [tok_sign hi' (by rw [h1];exact c1) (by rw [begins_drop];exact c2) (by rw [h1];exact c3) (by rw [h1];exact c4),tok_sign h0 c1 c2 c3 c4,h4]
   rfl
/-! ### the text of a number -/
theorem getD_take (zs:List Int)(k j:Nat)(h:j<k):(zs.take k).getD j 0=zs.getD j 0:=by
 simp [List.getD,h]
theorem stA_take (zs:List Int)(p:Int→Bool)(k j:Nat)(h:j<k):stA (zs.take k) p j=stA zs p j:=by
 unfold stA
 rw [getD_take zs k j h,List.length_take]
 by_cases hz:j<zs.length
 · rw [decide_eq_true hz,decide_eq_true (by omega)]
 · rw [decide_eq_false hz,decide_eq_false (by omega)]
theorem numEnd_len (zs:List Int):minusTo zs 0≤numEnd zs 0∧numEnd zs 0≤zs.length:=by
 constructor
 · exact runTo_ge _ _ _
 · unfold numEnd
   refine runTo_le _ _ _ ?_
   rcases minusTo_cases zs with ⟨_,h,h2,_⟩|⟨_,h⟩<;>omega
theorem take_minus (zs:List Int):minusTo (zs.take (numEnd zs 0)) 0=minusTo zs 0∧(0<numEnd zs 0→stA (zs.take (numEnd zs 0)) (isC 45) 0=stA zs (isC 45) 0):=by
 have h1:0<numEnd zs 0→stA (zs.take (numEnd zs 0)) (isC 45) 0=stA zs (isC 45) 0:=stA_take zs _ _ 0
 refine ⟨?_,h1⟩
 have hl:=(numEnd_len zs).1
 rcases minusTo_cases zs with ⟨a1,a2,_,_⟩|⟨a1,a2⟩
 · unfold minusTo at a2 ⊢
   rw [h1 (by unfold minusTo at hl;omega)]
 · rw [a2]
   unfold minusTo
   by_cases h0:0<numEnd zs 0
   · rw [h1 h0,if_neg (by rw [a1];decide)]
   · rw [stA_ge (by rw [List.length_take];omega)]
     rfl
theorem take_numEnd (zs:List Int):numEnd (zs.take (numEnd zs 0)) 0=numEnd zs 0∧(zs.take (numEnd zs 0)).length=numEnd zs 0:=by
 obtain ⟨h1,h2⟩:=numEnd_len zs
 have hl:(zs.take (numEnd zs 0)).length=numEnd zs 0:=by rw [List.length_take];omega
 refine ⟨?_,hl⟩
 rw [show numEnd (zs.take (numEnd zs 0)) 0=runTo (zs.take (numEnd zs 0)) isDig (minusTo (zs.take (numEnd zs 0)) 0) from rfl,(take_minus zs).1]
 refine runTo_unique h1 (fun j a b=>?_) (stA_ge (by rw [hl];exact Nat.le_refl _))
 rw [stA_take zs _ _ j b]
 exact runTo_all zs isDig (minusTo zs 0) j a b
theorem numBad_text (zs:List Int):numBad zs 0=(!goodN (zs.take (numEnd zs 0))||stA zs isLet (numEnd zs 0)):=by
 obtain ⟨e1,e2⟩:=take_numEnd zs
 obtain ⟨m1,m2⟩:=take_minus zs
 obtain ⟨h1,h2⟩:=numEnd_len zs
 unfold goodN
 rw [e1,e2,decide_eq_true rfl,Bool.and_true,Bool.not_not]
 unfold numBad zeroAhead
 rw [m1]
 have r1:runTo zs isDig (minusTo zs 0)=numEnd zs 0:=rfl
 have r2:runTo (zs.take (numEnd zs 0)) isDig (minusTo zs 0)=numEnd zs 0:=by
  rw [←m1]
  exact e1
 rw [r1,r2]
 by_cases hk:numEnd zs 0-minusTo zs 0=0
 · rw [decide_eq_true hk]
   simp
 · rw [stA_take zs (isC 48) _ _ (by omega),m2 (by omega),stA_ge (p:=isLet) (i:=numEnd zs 0) (zs:=zs.take (numEnd zs 0)) (by rw [e2];exact Nat.le_refl _)]
   generalize decide (numEnd zs 0-minusTo zs 0=0)=a
   generalize decide (20<numEnd zs 0-minusTo zs 0)=b
   generalize stA zs isLet (numEnd zs 0)=l
   generalize (stA zs (isC 48) (minusTo zs 0)&&(stA zs (isC 45) 0||decide (1<numEnd zs 0-minusTo zs 0)))=z
   cases a<;>cases b<;>cases l<;>cases z<;>rfl
/-! ### tokens and their texts -/
def full (t:Tok):List Int:=if t.kind=3 then 34::(t.text++[34]) else t.text
def Sep (r:List Int):Prop:=stA r isLet 0=false∧stA r isDig 0=false
theorem full_plain (k:Int)(x:List Int)(p:Nat)(h:k≠3):full ⟨k,x,p⟩=x:=if_neg h
theorem full_quo (x:List Int)(p:Nat):full ⟨3,x,p⟩=34::(x++[34]):=if_pos rfl
theorem kind_iff {k:Int}{ss:List Int}(hk:k≠0)(h0:ss≠[]):(k=0 ↔ ss=[]):=⟨fun h=>absurd h hk,fun h=>absurd h h0⟩
def Fine (ok:List Int→Bool)(sg:Int→Bool)(t:Tok):Prop:=
 (t.kind=0∧t.text=[]) ∨
 (t.kind=1∧t.text≠[]∧isLet (t.text.getD 0 0)=true∧∀ c ∈ t.text,(isLet c||isDig c)=true) ∨
 (t.kind=2∧goodN t.text=true) ∨
 (t.kind=3∧(∀ c ∈ t.text,isPlain c=true)∧ok t.text=true) ∨
 (t.kind=4∧∃ c,t.text=[c]∧sg c=true∧isLet c=false∧isDig c=false∧c≠34)
theorem sub_zero (zs:List Int)(k:Nat):sub zs 0 k=zs.take k:=by unfold sub;simp
theorem runTo_zero (zs:List Int)(p:Int→Bool):runTo zs p 0=(zs.takeWhile p).length:=by unfold runTo;simp
theorem take_run (zs:List Int)(p:Int→Bool):zs.take (runTo zs p 0)=zs.takeWhile p:=by
 rw [runTo_zero]
 conv=>lhs;rw [←List.takeWhile_append_dropWhile (p:=p) (l:=zs)]
 rw [List.takeWhile_append_dropWhile,←List.prefix_iff_eq_take.1 (List.takeWhile_prefix p)]
theorem mem_takeWhile {zs:List Int}{p:Int→Bool}{c:Int}(h:c ∈ zs.takeWhile p):p c=true:=by
 have:=List.all_takeWhile (p:=p) (l:=zs)
 exact List.all_eq_true.1 this c h
theorem tok_fine {ok:List Int→Bool}{sg:Int→Bool}{ss:List Int}{t:Tok}{e:Nat}(h:tok ok sg ss 0=some (t,e)) :
  Fine ok sg t∧t.place=0∧e=(full t).length∧ss.take e=full t∧(t.kind=0 ↔ ss=[]):=by
 by_cases h0:ss=[]
 · subst h0
   rw [tok_end (zs:=[]) (i:=0) rfl] at h
   cases h
   exact ⟨.inl ⟨rfl,rfl⟩,rfl,rfl,rfl,by simp⟩
 have hl:0<ss.length:=List.length_pos_iff.2 h0
 cases c1:stA ss isLet 0
 rotate_left
 · rw [tok_name hl c1] at h
   cases h
   have hq:stA ss (fun c=>isLet c||isDig c) 0=true:=by
    rw [stA_of hl] at c1 ⊢
    simp only [c1,Bool.true_or]
   have hne:0<runTo ss (fun c=>isLet c||isDig c) 0:=by rw [runTo_step hq];exact runTo_ge _ _ _
   have hle:=runTo_le ss (fun c=>isLet c||isDig c) 0 (Nat.zero_le _)
   refine ⟨.inr (.inl ⟨rfl,?_,?_,?_⟩),rfl,?_,?_,?_⟩
   · intro he
     have:=congrArg List.length he
     rw [sub_zero,List.length_take,List.length_nil] at this
     omega
   · show isLet ((sub ss 0 _).getD 0 0)=true
     rw [sub_zero,getD_take _ _ _ hne]
     exact stA_p c1
   · intro c hc
     rw [sub_zero,take_run] at hc
     exact mem_takeWhile hc
   · rw [full_plain _ _ _ (by decide),sub_zero,List.length_take]
     omega
   · rw [full_plain _ _ _ (by decide),sub_zero]
   · exact kind_iff (show (1:Int)≠0 by decide) h0
 cases c2:begins ss 0
 rotate_left
 · rw [tok_num hl c1 c2] at h
   cases hb:numBad ss 0
   · rw [hb,if_neg (by decide)] at h
     cases h
     have hg:goodN (ss.take (numEnd ss 0))=true:=by
      rw [numBad_text,Bool.or_eq_false_iff,Bool.not_eq_false'] at hb
      exact hb.1
     have hle:=(numEnd_len ss).2
     refine ⟨.inr (.inr (.inl ⟨rfl,by rw [sub_zero];exact hg⟩)),rfl,?_,?_,?_⟩
     · rw [full_plain _ _ _ (by decide),sub_zero,List.length_take]
       omega
     · rw [full_plain _ _ _ (by decide),sub_zero]
     · exact kind_iff (show (2:Int)≠0 by decide) h0
   · rw [hb,if_pos rfl] at h
     cases h
 cases c3:stA ss (isC 34) 0
 rotate_left
 · rw [tok_quo hl c1 c2 c3] at h
   cases hb:quoBad ok ss 0
   · rw [hb,if_neg (by decide)] at h
     cases h
     unfold quoBad at hb
     rw [Bool.or_eq_false_iff,Bool.not_eq_false',Bool.not_eq_false'] at hb
     have hlt:=stA_lt hb.1
     have h34:ss.getD 0 0=34:=of_decide_eq_true (show decide (ss.getD 0 0=34)=true from stA_p c3)
     have he34:ss.getD (quoEnd ss 0) 0=34:=of_decide_eq_true (show decide (ss.getD (quoEnd ss 0) 0=34)=true from stA_p hb.1)
     have hge:1≤quoEnd ss 0:=runTo_ge ss isPlain 1
     have hsub:ss=34::(sub ss 1 (quoEnd ss 0)++34::ss.drop (quoEnd ss 0+1)):=by
      have e1:ss=34::ss.drop 1:=by
       conv=>lhs;rw [show ss=ss.drop 0 from rfl,drop_cons hl,h34]
      have e2:ss.drop 1=sub ss 1 (quoEnd ss 0)++ss.drop (quoEnd ss 0):=by
       unfold sub
       conv=>lhs;rw [←List.take_append_drop (quoEnd ss 0-1) (ss.drop 1)]
       rw [List.drop_drop,show 1+(quoEnd ss 0-1)=quoEnd ss 0 by omega]
      have e3:ss.drop (quoEnd ss 0)=34::ss.drop (quoEnd ss 0+1):=by rw [drop_cons hlt,he34]
      rw [←e3,←e2]
      exact e1
     have hlen:(sub ss 1 (quoEnd ss 0)).length=quoEnd ss 0-1:=by
      unfold sub
      rw [List.length_take,List.length_drop]
      omega
     refine ⟨.inr (.inr (.inr (.inl ⟨rfl,?_,hb.2⟩))),rfl,?_,?_,?_⟩
     · intro c hc
       obtain ⟨j,hj,rfl⟩:=List.mem_iff_getElem.1 hc
       have hj':j<quoEnd ss 0-1:=by rw [←hlen];exact hj
       have hp:=stA_p (runTo_all ss isPlain 1 (1+j) (by omega) (by show 1+j<quoEnd ss 0;omega))
       have e:(sub ss (0+1) (quoEnd ss 0))[j]=ss.getD (1+j) 0:=by
        have h2:j<ss.length-1:=by omega
        have h3:j+1<ss.length:=by omega
        unfold sub
        rw [Nat.add_comm 1 j]
        simp [List.getD,h3]
       rw [e]
       exact hp
     · rw [full_quo]
       simp only [List.length_cons,List.length_append,List.length_nil]
       show _=(sub ss 1 (quoEnd ss 0)).length+(0+1)+1
       omega
     · rw [full_quo]
       show ss.take (quoEnd ss 0+1)=34::(sub ss 1 (quoEnd ss 0)++[34])
       have e:=congrArg (List.take (quoEnd ss 0+1)) hsub
       rw [e,List.take_succ_cons,show sub ss 1 (quoEnd ss 0)++34::ss.drop (quoEnd ss 0+1)=(sub ss 1 (quoEnd ss 0)++[34])++ss.drop (quoEnd ss 0+1) by simp]
       rw [List.take_append_of_le_length (by simp;omega),List.take_of_length_le (by simp;omega)]
     · exact kind_iff (show (3:Int)≠0 by decide) h0
   · rw [hb,if_pos rfl] at h
     cases h
 cases c4:stA ss sg 0
 · rw [tok_none hl c1 c2 c3 c4] at h
   cases h
 · rw [tok_sign hl c1 c2 c3 c4] at h
   cases h
   have e:ss.take 1=[ss.getD 0 0]:=by
    conv=>lhs;rw [show ss=ss.drop 0 from rfl,drop_cons hl]
    rfl
   unfold begins at c2
   rw [Bool.or_eq_false_iff] at c2
   rw [stA_of hl] at c1 c3 c4
   rw [stA_of hl] at c2
   refine ⟨.inr (.inr (.inr (.inr ⟨rfl,ss.getD 0 0,?_,c4,c1,c2.1,?_⟩))),rfl,?_,?_,?_⟩
   · rw [sub_zero];exact e
   · exact of_decide_eq_false c3
   · rw [full_plain _ _ _ (by decide),sub_zero,List.length_take]
     omega
   · rw [full_plain _ _ _ (by decide),sub_zero]
   · exact kind_iff (show (4:Int)≠0 by decide) h0
end Go.Proofs.YtokhnoogkdlidaaGreatDoor
namespace Go.Proofs.YtokhnoogkdlidaaGreatDoor
open Go.RowKit
theorem stA_left (a b:List Int)(p:Int→Bool)(j:Nat)(h:j<a.length):stA (a++b) p j=stA a p j:=by
 have:=stA_take (a++b) p a.length j h
 rw [List.take_left] at this
 exact this.symm
theorem stA_right (a b:List Int)(p:Int→Bool)(j:Nat):stA (a++b) p (a.length+j)=stA b p j:=by
 rw [stA_drop,List.drop_left]
theorem stA_mem {a:List Int}{p:Int→Bool}(h:∀ c ∈ a,p c=true)(j:Nat)(hj:j<a.length):stA a p j=true:=by
 rw [stA_of hj,List.getD,List.getElem?_eq_getElem hj]
 exact h _ (List.getElem_mem _)
theorem sep_or {r:List Int}(h:Sep r):stA r (fun c=>isLet c||isDig c) 0=false:=by
 obtain ⟨h1,h2⟩:=h
 unfold stA at h1 h2 ⊢
 cases hd:decide (0<r.length)
 · rfl
 · rw [hd,Bool.true_and] at h1 h2
   rw [Bool.true_and]
   show (isLet _||isDig _)=false
   rw [h1,h2]
   rfl
theorem let_of_dig {c:Int}(h:isDig c=true):isLet c=false:=by
 have:=of_decide_eq_true h
 exact decide_eq_false (by omega)
theorem tok_of_name {ok:List Int→Bool}{sg:Int→Bool}{x rest:List Int}(hne:x≠[])(h0:isLet (x.getD 0 0)=true)(hx:∀ c ∈ x,(isLet c||isDig c)=true)(hS:Sep rest):tok ok sg (x++rest) 0=some (⟨1,x,0⟩,x.length):=by
 have hl:0<x.length:=List.length_pos_iff.2 hne
 have hr:runTo (x++rest) (fun c=>isLet c||isDig c) 0=x.length:=by
  refine runTo_unique (Nat.zero_le _) (fun j _ hj=>?_) ?_
  · rw [stA_left _ _ _ _ hj]
    exact stA_mem hx j hj
  · have:=stA_right x rest (fun c=>isLet c||isDig c) 0
    rw [Nat.add_zero] at this
    rw [this]
    exact sep_or hS
 rw [tok_name (by simp;omega) (by rw [stA_left _ _ _ _ hl,stA_of hl];exact h0),hr,sub_zero,List.take_left]
theorem good_head {x:List Int}(h:goodN x=true):x≠[]∧stA x isLet 0=false∧∀ rest,begins (x++rest) 0=true:=by
 obtain ⟨h1,h2,h3,h4,h5⟩:=(goodN_iff x).1 h
 rw [digs_length] at h1
 have hl:0<x.length:=by omega
 refine ⟨List.length_pos_iff.1 hl,?_,fun rest=>?_⟩
 · rw [stA_of hl]
   rcases minusTo_cases x with ⟨m1,m2,m3,m4⟩|⟨m1,m2⟩
   · rw [m4];rfl
   · have:=h5 0 (by rw [digs_length];omega)
     rw [digs_get,m2] at this
     exact let_of_dig this
 · unfold begins
   rcases minusTo_cases x with ⟨m1,m2,m3,m4⟩|⟨m1,m2⟩
   · have:=h5 0 (by rw [digs_length];omega)
     rw [digs_get,m2,Nat.add_zero] at this
     rw [stA_left _ _ _ _ hl,stA_left _ _ _ _ hl,stA_left _ _ _ 1 (by omega),m1,stA_of (i:=1) (by omega),this]
     simp
   · have:=h5 0 (by rw [digs_length];omega)
     rw [digs_get,m2,Nat.add_zero] at this
     rw [stA_left _ _ _ _ hl,stA_of hl,this,Bool.true_or]
theorem good_end {x rest:List Int}(h:goodN x=true)(hS:stA rest isDig 0=false):numEnd (x++rest) 0=x.length:=by
 obtain ⟨hne,_,_⟩:=good_head h
 have hl:0<x.length:=List.length_pos_iff.2 hne
 obtain ⟨h1,h2,h3,h4,h5⟩:=(goodN_iff x).1 h
 have hm:minusTo (x++rest) 0=minusTo x 0:=by
  unfold minusTo
  rw [stA_left _ _ _ _ hl]
 unfold numEnd
 rw [hm]
 rw [digs_length] at h1 h5
 refine runTo_unique (by omega) (fun j a b=>?_) ?_
 · rw [stA_left _ _ _ _ b,stA_of b]
   have:=h5 (j-minusTo x 0) (by omega)
   rw [digs_get,show minusTo x 0+(j-minusTo x 0)=j by omega] at this
   exact this
 · have:=stA_right x rest isDig 0
   rw [Nat.add_zero] at this
   rw [this]
   exact hS
theorem tok_of_num {ok:List Int→Bool}{sg:Int→Bool}{x rest:List Int}(h:goodN x=true)(hS:Sep rest):tok ok sg (x++rest) 0=some (⟨2,x,0⟩,x.length):=by
 obtain ⟨hne,hlet,hb⟩:=good_head h
 have hl:0<x.length:=List.length_pos_iff.2 hne
 have he:=good_end h hS.2
 have hbad:numBad (x++rest) 0=false:=by
  have:=stA_right x rest isLet 0
  rw [Nat.add_zero] at this
  rw [numBad_text,he,List.take_left,h,this,hS.1]
  rfl
 rw [tok_num (by simp;omega) (by rw [stA_left _ _ _ _ hl];exact hlet) (hb rest),hbad,if_neg (by decide),he,sub_zero,List.take_left]
theorem tok_of_quo {ok:List Int→Bool}{sg:Int→Bool}{x rest:List Int}(hx:∀ c ∈ x,isPlain c=true)(ho:ok x=true):tok ok sg (34::(x++34::rest)) 0=some (⟨3,x,0⟩,x.length+2):=by
 have e1:∀ p j,stA (34::(x++34::rest)) p (1+j)=stA (x++34::rest) p j:=fun p j=>stA_drop _ p 1 j
 have he:quoEnd (34::(x++34::rest)) 0=1+x.length:=by
  unfold quoEnd
  rw [show (0:Nat)+1=1+0 from rfl,runTo_drop]
  congr 1
  show runTo (x++34::rest) isPlain 0=x.length
  refine runTo_unique (Nat.zero_le _) (fun j _ hj=>?_) ?_
  · rw [stA_left _ _ _ _ hj]
    exact stA_mem hx j hj
  · have:=stA_right x (34::rest) isPlain 0
    rw [Nat.add_zero] at this
    rw [this]
    rfl
 have hs:sub (34::(x++34::rest)) (0+1) (1+x.length)=x:=by
  unfold sub
  rw [show 1+x.length-(0+1)=x.length by omega]
  show (x++34::rest).take x.length=x
  exact List.take_left
 have hq:stA (34::(x++34::rest)) (isC 34) (1+x.length)=true:=by
  rw [e1]
  have:=stA_right x (34::rest) (isC 34) 0
  rw [Nat.add_zero] at this
  rw [this]
  rfl
 have hbad:quoBad ok (34::(x++34::rest)) 0=false:=by
  unfold quoBad
  rw [he,hq,hs,ho]
  rfl
 rw [tok_quo (by simp) rfl rfl rfl,hbad,if_neg (by decide),he,hs]
 congr 2
 omega
end Go.Proofs.YtokhnoogkdlidaaGreatDoor
namespace Go.Proofs.YtokhnoogkdlidaaGreatDoor
open Go.RowKit
def Chain (ok:List Int→Bool)(sg:Int→Bool)(zs:List Int):Nat→List Tok→Prop
 | _,[]=>False
 | i,t::r=>∃ b,tok ok sg zs (gap zs i)=some (t,b)∧((t.kind=0∧r=[])∨(t.kind≠0∧Chain ok sg zs b r))
theorem chain_of {ok:List Int→Bool}{sg:Int→Bool}{zs:List Int}{l:List Tok}{p:Nat}:∀ (f i:Nat) (l0:List Tok),f+l0.length=2049→l0.length≤2048→toksF ok sg zs f i l0=(l,0,p)→∃ r,l=l0++r∧Chain ok sg zs i r∧l.length≤2048
 | 0,i,l0,hf,hl,_=>by omega
 | f+1,i,l0,hf,hl,h=>by
  simp only [toksF] at h
  by_cases h1:l0.length=2048
  · rw [if_pos h1] at h
    simp at h
  · rw [if_neg h1] at h
    cases ht:tok ok sg zs (gap zs i) with
    | none =>
     rw [ht] at h
     simp at h
    | some x =>
     obtain ⟨t,e⟩:=x
     rw [ht] at h
     simp only at h
     by_cases hk:t.kind=0
     · rw [if_pos hk] at h
       simp only [Prod.mk.injEq] at h
       obtain ⟨rfl,_,_⟩:=h
       exact ⟨[t],rfl,⟨e,ht,.inl ⟨hk,rfl⟩⟩,by simp;omega⟩
     · rw [if_neg hk] at h
       obtain ⟨r,hr,hc,hlen⟩:=chain_of f e (l0++[t]) (by simp;omega) (by simp;omega) h
       exact ⟨t::r,by rw [hr];simp,⟨e,ht,.inr ⟨hk,hc⟩⟩,hlen⟩
theorem toks_chain {ok:List Int→Bool}{sg:Int→Bool}{zs:List Int}{l:List Tok}{p:Nat}(h:toks ok sg zs=(l,0,p)):Chain ok sg zs 0 l∧l.length≤2048:=by
 unfold toks at h
 split at h
 · simp at h
 · obtain ⟨r,hr,hc,hl⟩:=chain_of 2049 0 [] rfl (Nat.zero_le _) h
   rw [List.nil_append] at hr
   subst hr
   exact ⟨hc,hl⟩
theorem tok_found {ok:List Int→Bool}{sg:Int→Bool}{zs:List Int}{i:Nat}{t:Tok}{e:Nat}(hi:i≤zs.length)(h:tok ok sg zs i=some (t,e)) :
  Fine ok sg t∧t.place=i∧e=i+(full t).length∧sub zs i e=full t∧(t.kind=0 ↔ i=zs.length):=by
 rw [tok_drop ok sg zs i hi] at h
 cases h0:tok ok sg (zs.drop i) 0 with
 | none=>rw [h0] at h;cases h
 | some x =>
  obtain ⟨t0,e0⟩:=x
  rw [h0] at h
  obtain ⟨f1,f2,f3,f4,f5⟩:=tok_fine h0
  have hx:shiftT i (t0,e0)=(t,e):=by injection h
  unfold shiftT at hx
  simp only [Prod.mk.injEq] at hx
  obtain ⟨rfl,rfl⟩:=hx
  have hfull:full ⟨t0.kind,t0.text,i+t0.place⟩=full t0:=rfl
  refine ⟨f1,?_,?_,?_,?_⟩
  · show i+t0.place=i
    omega
  · rw [hfull];omega
  · rw [hfull]
    have:=sub_drop zs i 0 e0
    rw [Nat.add_zero] at this
    rw [this,sub_zero]
    exact f4
  · show t0.kind=0 ↔ _
    rw [f5,List.drop_eq_nil_iff]
    omega
def Left (ok:List Int→Bool)(sg:Int→Bool)(zs:List Int)(i:Nat)(r:List Tok):Prop:=(r=[]∧i=zs.length)∨Chain ok sg zs i r
theorem left_step {ok:List Int→Bool}{sg:Int→Bool}{zs:List Int}{i:Nat}{t:Tok}{r:List Tok}(hi:i≤zs.length)(h:Left ok sg zs i (t::r)) :
  Fine ok sg t∧t.place=gap zs i∧gap zs i+(full t).length≤zs.length∧sub zs (gap zs i) (gap zs i+(full t).length)=full t∧(t.kind=0 ↔ r=[])∧Left ok sg zs (gap zs i+(full t).length) r:=by
 rcases h with ⟨h,_⟩|⟨b,hb,hr⟩
 · cases h
 · have hg:=gap_le zs i hi
   have hle:=tok_le hg hb
   obtain ⟨f1,f2,f3,f4,f5⟩:=tok_found hg hb
   subst f3
   refine ⟨f1,f2,hle,f4,?_,?_⟩
   · rcases hr with ⟨hk,hr⟩|⟨hk,hr⟩
     · exact ⟨fun _=>hr,fun _=>hk⟩
     · refine ⟨fun h=>absurd h hk,fun h=>?_⟩
       subst h
       exact hr.elim
   · rcases hr with ⟨hk,hr⟩|⟨hk,hr⟩
     · refine .inl ⟨hr,?_⟩
       have h1:=f5.1 hk
       have h2:full t=[]:=by
        rcases f1 with ⟨_,h⟩|⟨h,_⟩|⟨h,_⟩|⟨h,_⟩|⟨h,_⟩
        · unfold full
          rw [if_neg (by rw [hk];decide)]
          exact h
        all_goals (rw [hk] at h;exact absurd h (by decide))
       rw [h2]
       simpa using h1
     · exact .inr hr
def EndLast:List Tok→Prop
 | []=>False
 | t::r=>(t.kind=0∧r=[])∨(t.kind≠0∧EndLast r)
theorem chain_last {ok:List Int→Bool}{sg:Int→Bool}{zs:List Int}:∀ (l:List Tok) (i:Nat),Chain ok sg zs i l→EndLast l
 | [],_,h=>h
 | t::r,i,⟨b,_,h⟩=>by
  rcases h with h|⟨hk,hc⟩
  · exact .inl h
  · exact .inr ⟨hk,chain_last r b hc⟩
/-! ### gaps -/
def Solid (r:List Int):Prop:=stA r isBlank 0=false∧stA r (isC 47) 0=false
theorem drop_succ {zs s:List Int}{i:Nat}{c:Int}(h:zs.drop i=c::s):zs.drop (i+1)=s∧(∀ p,stA zs p i=p c):=by
 refine ⟨?_,fun p=>?_⟩
 · rw [←List.drop_drop,h]
   rfl
 · rw [show stA zs p i=stA (zs.drop i) p 0 from stA_drop zs p i 0,h]
   exact stA_of (by simp)
theorem gap_cons {zs s:List Int}{i:Nat}{c:Int}(h:zs.drop i=c::s)(hc:isBlank c=true):gap zs i=gap zs (i+1):=gap_blank (by rw [(drop_succ h).2];exact hc)
theorem gap_solid {zs r:List Int}{i:Nat}(h:zs.drop i=r)(hS:Solid r):gap zs i=i:=by
 have e:∀ p,stA zs p i=stA r p 0:=fun p=>by rw [←h];exact stA_drop zs p i 0
 refine gap_stop (by rw [e];exact hS.1) ?_
 unfold slash2
 rw [e,hS.2,Bool.false_and]
theorem sep_nil:Sep []:=⟨rfl,rfl⟩
theorem solid_cons {c:Int}{r:List Int}(h1:isBlank c=false)(h2:c≠47):Solid (c::r):=by
 constructor
 · rw [stA_of (by simp)]
   exact h1
 · rw [stA_of (by simp)]
   exact decide_eq_false h2
/-! ### a text made anew -/
end Go.Proofs.YtokhnoogkdlidaaGreatDoor
namespace Go.Proofs.YtokhnoogkdlidaaGreatDoor
open Go.RowKit
section
variable {ok:List Int→Bool} {sg:Int→Bool} {a b:List Int}
theorem chain_toks {zs:List Int}:∀ (f i:Nat) (l0 l:List Tok),f+l0.length=2049→Chain ok sg zs i l→l0.length+l.length≤2048→toksF ok sg zs f i l0=(l0++l,0,0)
 | _,_,_,[],_,h,_=>h.elim
 | 0,_,_,t::r,hf,_,hl=>by simp at hl;omega
 | f+1,i,l0,t::r,hf,h,hl=>by
  obtain ⟨e,h1,h2⟩:=h
  simp at hl
  simp only [toksF]
  rw [if_neg (by omega),h1]
  simp only
  rcases h2 with ⟨h3,rfl⟩|⟨h3,h4⟩
  · rw [if_pos h3]
  · rw [if_neg h3,chain_toks f e (l0++[t]) r (by simp;omega) h4 (by simp;omega)]
    simp
theorem chain_many {zs:List Int}:∀ (f i:Nat) (l0 l:List Tok),f+l0.length=2049→l0.length≤2048→Chain ok sg zs i l→2048<l0.length+l.length→(toksF ok sg zs f i l0).2.1=16
 | _,_,_,[],_,_,h,_=>h.elim
 | 0,_,_,t::r,hf,hl0,_,hl=>by omega
 | f+1,i,l0,t::r,hf,hl0,h,hl=>by
  obtain ⟨e,h1,h2⟩:=h
  simp at hl
  simp only [toksF]
  by_cases h5:l0.length=2048
  · rw [if_pos h5]
  · rw [if_neg h5,h1]
    simp only
    rcases h2 with ⟨h3,rfl⟩|⟨h3,h4⟩
    · simp at hl;omega
    · rw [if_neg h3]
      exact chain_many f e (l0++[t]) r (by simp;omega) (by simp;omega) h4 (by simp;omega)
theorem toks_of_chain {zs:List Int}{l:List Tok}(hz:zs.length≤8192)(h:Chain ok sg zs 0 l):toks ok sg zs=(l,0,0)∧l.length≤2048∨(toks ok sg zs).2.1=16:=by
 unfold toks
 rw [if_neg (by omega)]
 by_cases hl:l.length≤2048
 · exact .inl ⟨by rw [chain_toks 2049 0 [] l rfl h (by simpa using hl)];rfl,hl⟩
 · exact .inr (chain_many 2049 0 [] l rfl (Nat.zero_le _) h (by simp;omega))
end
end Go.Proofs.YtokhnoogkdlidaaGreatDoor
namespace Go.Proofs.YtokhnoogkdlidaaGreatDoor
open Go.RowKit
/-! ### one behind the other -/
/-! ### what stands ahead is kept -/
/-! ### places -/
def eT (t:Tok):Tok:=⟨t.kind,t.text,0⟩
def eTy (t:RTy):RTy:=⟨t.name,t.lists,0⟩
def eF (f:RField):RField:=⟨f.name,0,eTy f.ty,eT f.dflt⟩
def eR (s:RRec):RRec:=⟨s.name,0,s.fields.map eF⟩
def eC (s:RCho):RCho:=⟨s.name,0,s.names.map eT⟩
def eRaw (a:RRaw):RRaw:=⟨a.structs.map eR,a.enums.map eC,a.roots.map eT⟩
def eL (r:List Tok):List Tok:=r.map eT
def Res.er {α:Type}(f:α→α):Res α→Res α
 | .ok a r=>.ok (f a) (eL r)
 | .no c _=>.no c 0
theorem hd_er (r:List Tok):hd (eL r)=eT (hd r):=by cases r<;>rfl
theorem is_er (k:Int)(x:List Int)(r:List Tok):isT k x (eL r)=isT k x r:=by unfold isT;rw [hd_er];rfl
theorem tail_er (r:List Tok):(eL r).tail=eL r.tail:=by cases r<;>rfl
theorem bad_er {α:Type}(f:α→α)(c:Int)(r:List Tok):(bad c (eL r):Res α)=(bad c r:Res α).er f:=by unfold bad;rw [hd_er];rfl
theorem bind_er {α β:Type}{f:α→α}{g:β→β}{x y:Res α}{k k':α→List Tok→Res β}(h:y=x.er f)(hk:∀ a r,k' (f a) (eL r)=(k a r).er g):y.bind k'=(x.bind k).er g:=by
 subst h
 cases x with
 | no c p=>rfl
 | ok a r=>exact hk a r
theorem want_er (x:List Int)(r:List Tok):wantR x (eL r)=(wantR x r).er id:=by
 unfold wantR
 rw [is_er,tail_er]
 split
 · rfl
 · exact bad_er _ _ _
theorem sized_er (r:List Tok):sizedR (eL r)=(sizedR r).er eT:=by
 unfold sizedR
 rw [hd_er,tail_er]
 show (if (hd r).text.length=0∨40<(hd r).text.length then _ else _)=_
 split
 · exact bad_er _ _ _
 · rfl
theorem name_er (r:List Tok):nameR (eL r)=(nameR r).er eT:=by
 unfold nameR
 rw [hd_er]
 show (if (hd r).kind=1 then _ else _)=_
 split
 · exact sized_er r
 · exact bad_er _ _ _
theorem label_er (r:List Tok):labelR (eL r)=(labelR r).er eT:=by
 unfold labelR
 rw [hd_er]
 show (if (hd r).kind=1∨(hd r).kind=3 then _ else _)=_
 split
 · exact sized_er r
 · exact bad_er _ _ _
theorem value_er (r:List Tok):valueR (eL r)=(valueR r).er eT:=by
 unfold valueR
 rw [hd_er,tail_er]
 show (if (hd r).kind=1∨(hd r).kind=2 then _ else _)=_
 split
 · rfl
 · exact bad_er _ _ _
theorem lists_er:∀ (f n:Nat) (r:List Tok),listsR f n (eL r)=(listsR f n r).er id
 | 0,n,r=>by
  unfold listsR
  rw [is_er]
  split
  · exact bad_er _ _ _
  · rfl
 | f+1,n,r=>by
  unfold listsR
  rw [is_er,tail_er]
  split
  · exact bind_er (want_er _ _) fun _ r'=>lists_er f (n+1) r'
  · rfl
theorem close_er:∀ (n:Nat) (r:List Tok),closeR n (eL r)=(closeR n r).er id
 | 0,_=>rfl
 | n+1,_=>bind_er (want_er _ _) fun _ r'=>close_er n r'
theorem ty_er (r:List Tok):tyR (eL r)=(tyR r).er eTy:=by
 unfold tyR
 rw [hd_er]
 exact bind_er (lists_er 3 0 r) fun n r1=>bind_er (name_er r1) fun t r2=>bind_er (close_er n r2) fun _ r3=>rfl
theorem dflt_er (r:List Tok):dfltR (eL r)=(dfltR r).er eT:=by
 unfold dfltR
 rw [is_er,tail_er]
 split
 · exact value_er _
 · rfl
theorem field_er (r:List Tok):fieldR (eL r)=(fieldR r).er eF:=
 bind_er (label_er r) fun _ r1=>bind_er (want_er _ r1) fun _ r2=>bind_er (ty_er r2) fun _ r3=>bind_er (dflt_er r3) fun _ r4=>bind_er (want_er _ r4) fun _ _=>rfl
theorem fields_er:∀ (f:Nat) (acc:List RField) (r:List Tok),fieldsR f (acc.map eF) (eL r)=(fieldsR f acc r).er (List.map eF)
 | 0,_,_=>bad_er _ _ _
 | f+1,acc,r=>by
  unfold fieldsR
  rw [is_er,tail_er]
  split
  · rfl
  · refine bind_er (field_er r) fun x r'=>?_
    have:=fields_er f (acc++[x]) r'
    rw [List.map_append] at this
    exact this
theorem comma_er (r:List Tok):commaR (eL r)=(commaR r).er id:=by
 unfold commaR
 rw [is_er]
 split
 · rfl
 · exact want_er _ _
theorem names_er:∀ (f:Nat) (acc:List Tok) (r:List Tok),namesR f (acc.map eT) (eL r)=(namesR f acc r).er (List.map eT)
 | 0,_,_=>bad_er _ _ _
 | f+1,acc,r=>by
  unfold namesR
  rw [is_er,tail_er]
  split
  · rfl
  · refine bind_er (name_er r) fun x r'=>bind_er (comma_er r') fun _ r''=>?_
    have:=names_er f (acc++[x]) r''
    rw [List.map_append] at this
    exact this
theorem eL_length (r:List Tok):(eL r).length=r.length:=List.length_map ..
theorem fields_erL (r:List Tok):fieldsR (eL r).length [] (eL r)=(fieldsR r.length [] r).er (List.map eF):=by rw [eL_length];exact fields_er r.length [] r
theorem names_erL (r:List Tok):namesR (eL r).length [] (eL r)=(namesR r.length [] r).er (List.map eT):=by rw [eL_length];exact names_er r.length [] r
theorem rec_er (r:List Tok):recR (eL r)=(recR r).er eR:=
 bind_er (name_er r) fun _ r1=>bind_er (want_er _ r1) fun _ r2=>bind_er (fields_erL r2) fun _ _=>rfl
theorem cho_er (r:List Tok):choR (eL r)=(choR r).er eC:=
 bind_er (name_er r) fun _ r1=>bind_er (want_er _ r1) fun _ r2=>bind_er (names_erL r2) fun _ _=>rfl
theorem part_er (a:RRaw)(r:List Tok):partR (eRaw a) (eL r)=(partR a r).er eRaw:=by
 unfold partR
 rw [is_er,is_er,is_er,tail_er]
 split
 · exact bind_er (rec_er _) fun _ _=>by simp [Res.er,eRaw]
 split
 · exact bind_er (cho_er _) fun _ _=>by simp [Res.er,eRaw]
 split
 · exact bind_er (name_er _) fun _ r1=>bind_er (want_er _ r1) fun _ _=>by simp [Res.er,eRaw]
 · exact bad_er _ _ _
theorem schema_er:∀ (f:Nat) (a:RRaw) (r:List Tok),schemaR f (eRaw a) (eL r)=(schemaR f a r).er eRaw
 | 0,_,_=>bad_er _ _ _
 | f+1,a,r=>by
  unfold schemaR
  rw [hd_er]
  show (if (hd r).kind=0 then _ else _)=_
  split
  · rfl
  · exact bind_er (part_er a r) fun x r'=>schema_er f x r'
theorem schemaL_er (a:RRaw)(r:List Tok):schemaL (eRaw a) (eL r)=(schemaL a r).er eRaw:=by
 unfold schemaL
 rw [eL_length]
 exact schema_er _ a r
end Go.Proofs.YtokhnoogkdlidaaGreatDoor
namespace Go.Proofs.YtokhnoogkdlidaaGreatDoor
open Go.ChangeShapes Go.WideShapes Go.ChangeAt Go.RowKit Go.Shelf
theorem samong_any (a b:Int)(c:Bool)(hc:decide (0≤a∧a<b)=c)(w:World):Calls Tryz.prog 20 #[.int .i64 a,.int .i64 b] w fun e w'=>e=.returned (.bool c)∧w=w':=by
 by_cases h0:0≤a
 · by_cases h1:a<b
   · obtain rfl:c=true:=by rw [←hc];exact decide_eq_true ⟨h0,h1⟩
     clear hc
     go_enter Tryz.func20,Tryz.ntmps20
     go_wp2
     go_ret
     exact ⟨rfl,rfl⟩
   · obtain rfl:c=false:=by rw [←hc];exact decide_eq_false fun h=>h1 h.2
     clear hc
     go_enter Tryz.func20,Tryz.ntmps20
     go_wp2
     go_ret
     exact ⟨rfl,rfl⟩
 · have hf:c=false:=by rw [←hc];exact decide_eq_false fun h=>h0 h.1
   subst hf
   clear hc
   go_enter Tryz.func20,Tryz.ntmps20
   go_wp2
   go_ret
   exact ⟨rfl,rfl⟩
end Go.Proofs.YtokhnoogkdlidaaGreatDoor
