/-
  The frame of the maker's structs where some of its slots are known, and written out. No run stands in this text. (Made by program: wip/tools/gen-mkstf.py.)
-/
import Derived.Test.YtokhnoogkdlidaaGreatDoorPkP13
import Derived.Test.YtokhnoogkdlidaaGreatDoorPkP26
import Derived.Test.YtokhnoogkdlidaaGreatDoorPkP29
namespace Go.Proofs.YtokhnoogkdlidaaGreatDoor
open Go.ChangeShapes Go.WideShapes Go.ChangeAt Go.RowKit Go.Shelf
def tk (l:List Pc):List Tok:=l.map pTok
theorem tk_cons (q:Pc)(l:List Pc):tk (q::l)=pTok q::tk l:=rfl
theorem tk_append (a b:List Pc):tk (a++b)=tk a++tk b:=List.map_append ..
def rTy (B:ByteArray)(n:Nat):RTy:=⟨bts B,n,0⟩
def rDef (es:List SCho)(f:SFld):Tok:=if f.dflt≠0 then pTok (defPc es f) else noTok
def rFld (S:Sch)(f:SFld):RField:=⟨bts f.name,0,rTy (baseOf S f) f.lists,rDef S.enums f⟩
def rRec (S:Sch)(r:SRec):RRec:=⟨bts r.name,0,r.fields.map (rFld S)⟩
def nTok (n:ByteArray):Tok:=⟨1,bts n,0⟩
def rCho (c:SCho):RCho:=⟨bts c.name,0,c.names.map nTok⟩
def rRaw (S:Sch):RRaw:=⟨S.structs.map (rRec S),S.enums.map rCho,[nTok (rootOf S)]⟩
theorem want_is (c:Int)(r:List Tok):wantR [c] (⟨4,[c],0⟩::r)=.ok () r:=by
 unfold wantR isT
 simp [hd]
theorem name_is {s:ByteArray}(h:NameOk s)(r:List Tok):nameR (nTok s::r)=.ok (nTok s) r:=by
 have h1:¬((bts s).length=0∨40<(bts s).length):=by
  have:=h.2.2.2
  have:(bts s).length≠0:=fun e=>h.1 (List.eq_nil_of_length_eq_zero e)
  omega
 unfold nameR sizedR
 show (if (1:Int)=1 then (if (bts s).length=0∨40<(bts s).length then bad 12 _ else Res.ok (nTok s) r) else bad 11 _)=_
 rw [if_pos rfl,if_neg h1]
theorem label_is {s:ByteArray}(h:LabelOk s)(r:List Tok):labelR (⟨3,bts s,0⟩::r)=.ok ⟨3,bts s,0⟩ r:=by
 have h1:¬((bts s).length=0∨40<(bts s).length):=by
  have:=h.2.2.2
  have:(bts s).length≠0:=fun e=>h.1 (List.eq_nil_of_length_eq_zero e)
  omega
 unfold labelR sizedR
 show (if (3:Int)=1∨(3:Int)=3 then (if (bts s).length=0∨40<(bts s).length then bad 12 _ else Res.ok (⟨3,bts s,0⟩:Tok) r) else bad 11 _)=_
 rw [if_pos (by decide),if_neg h1]
def cl (n:Nat):List Tok:=List.replicate n ⟨4,[62],0⟩
theorem close_is:∀ (n:Nat) (r:List Tok),closeR n (cl n++r)=.ok () r
 | 0,r=>rfl
 | n+1,r=>by
  have e:cl (n+1)++r=⟨4,[62],0⟩::(cl n++r):=by simp [cl,List.replicate_succ]
  rw [e,closeR,want_is,bind_ok]
  exact close_is n r
theorem lists_is {B:ByteArray}(h:bts B≠wList):∀ (n f m:Nat) (g:List Int) (r:List Tok),n≤f→listsR f m (tk (tyPcs B n g)++r)=.ok (m+n) (nTok B::(cl n++r))
 | 0,f,m,g,r,_=>by
  have e:tk (tyPcs B 0 g)++r=nTok B::r:=rfl
  have hi:isT 1 wList (nTok B::r)=false:=by
   unfold isT
   show (decide ((1:Int)=1)&&decide (bts B=wList))=false
   rw [decide_eq_false h,Bool.and_false]
  rw [e]
  cases f with
  | zero=>unfold listsR;rw [if_neg (by rw [hi];decide)];rfl
  | succ f=>unfold listsR;rw [if_neg (by rw [hi];decide)];rfl
 | n+1,0,m,g,r,hf=>by omega
 | n+1,f+1,m,g,r,hf=>by
  have e:tk (tyPcs B (n+1) g)++r=⟨1,wList,0⟩::⟨4,[60],0⟩::(tk (tyPcs B n [])++(⟨4,[62],0⟩::r)):=by
   rw [tyPcs,tk_cons,tk_cons,tk_append]
   simp [tk,pTok,wdP,sgP]
  have hi:isT 1 wList ((⟨1,wList,0⟩:Tok)::⟨4,[60],0⟩::(tk (tyPcs B n [])++(⟨4,[62],0⟩::r)))=true:=rfl
  have e2:cl n++((⟨4,[62],0⟩:Tok)::r)=cl (n+1)++r:=by
   unfold cl
   rw [List.replicate_succ',List.append_assoc]
   rfl
  rw [e]
  unfold listsR
  rw [if_pos hi]
  show (wantR [60] (⟨4,[60],0⟩::_)).bind _=_
  rw [want_is,bind_ok,lists_is h n f (m+1) [] _ (by omega),e2,Nat.add_right_comm,Nat.add_assoc]
theorem ty_hd (B:ByteArray)(n:Nat)(g:List Int)(r:List Tok):(hd (tk (tyPcs B n g)++r)).place=0:=by cases n<;>rfl
theorem ty_is {B:ByteArray}(hB:NameOk B)(h:bts B≠wList)(n:Nat)(g:List Int)(r:List Tok)(hn:n≤3):tyR (tk (tyPcs B n g)++r)=.ok (rTy B n) r:=by
 unfold tyR
 rw [lists_is h n 3 0 g r hn,bind_ok,name_is hB,bind_ok,Nat.zero_add,close_is,bind_ok,ty_hd]
 rfl
theorem value_is {es:List SCho}{f:SFld}(r:List Tok):valueR (pTok (defPc es f)::r)=.ok (pTok (defPc es f)) r:=by
 have h:(pTok (defPc es f)).kind=1∨(pTok (defPc es f)).kind=2:=by
  unfold defPc
  split
  · exact .inl rfl
  · split
    · exact .inl rfl
    · exact .inr rfl
 unfold valueR
 exact if_pos h
theorem field_is {S:Sch}{f:SFld}(h:FieldOk S f)(r:List Tok):fieldR (tk (fieldPcs S f)++r)=.ok (rFld S f) r:=by
 have e:tk (fieldPcs S f)++r=⟨3,bts f.name,0⟩::⟨4,[58],0⟩::(tk (tailPcs S f)++r):=rfl
 rw [e]
 unfold fieldR
 rw [label_is h.lab,bind_ok,want_is,bind_ok]
 unfold rFld rDef tailPcs
 by_cases hd:f.dflt≠0
 · have e2:tk (tyPcs (baseOf S f) f.lists [32]++[sgP 61 [32],defPc S.enums f,sgP 59 [10]])++r=tk (tyPcs (baseOf S f) f.lists [32])++(⟨4,[61],0⟩::pTok (defPc S.enums f)::⟨4,[59],0⟩::r):=by
    rw [tk_append,List.append_assoc]
    rfl
   rw [if_pos hd,if_pos hd,e2,ty_is h.base.1 h.base.2 _ _ _ h.lists,bind_ok]
   have hi:isT 4 [61] ((⟨4,[61],0⟩:Tok)::pTok (defPc S.enums f)::⟨4,[59],0⟩::r)=true:=rfl
   unfold dfltR
   rw [if_pos hi]
   show ((valueR (pTok (defPc S.enums f)::_)).bind _)=_
   rw [value_is,bind_ok,want_is,bind_ok]
 · have e2:tk (tyPcs (baseOf S f) f.lists []++[sgP 59 [10]])++r=tk (tyPcs (baseOf S f) f.lists [])++(⟨4,[59],0⟩::r):=by
    rw [tk_append,List.append_assoc]
    rfl
   rw [if_neg hd,if_neg hd,e2,ty_is h.base.1 h.base.2 _ _ _ h.lists,bind_ok]
   have hi:isT 4 [61] ((⟨4,[59],0⟩:Tok)::r)=false:=rfl
   unfold dfltR
   rw [if_neg (by rw [hi];decide),bind_ok,want_is,bind_ok]
theorem fields_is {S:Sch}:∀ (l:List SFld) (f:Nat) (acc:List RField) (r:List Tok),l.length<f→(∀ x ∈ l,FieldOk S x)→fieldsR f acc (tk (l.flatMap (fieldPcs S))++(⟨4,[125],0⟩::r))=.ok (acc++l.map (rFld S)) r
 | [],0,_,_,h,_=>absurd h (Nat.not_lt_zero _)
 | [],f+1,acc,r,_,_=>by
  have e:tk (([]:List SFld).flatMap (fieldPcs S))++((⟨4,[125],0⟩:Tok)::r)=⟨4,[125],0⟩::r:=rfl
  have hi:isT 4 [125] ((⟨4,[125],0⟩:Tok)::r)=true:=rfl
  rw [e]
  unfold fieldsR
  rw [if_pos hi,List.map_nil,List.append_nil]
  rfl
 | x::l,0,_,_,h,_=>absurd h (Nat.not_lt_zero _)
 | x::l,f+1,acc,r,h,hl=>by
  have e:tk ((x::l).flatMap (fieldPcs S))++((⟨4,[125],0⟩:Tok)::r)=tk (fieldPcs S x)++(tk (l.flatMap (fieldPcs S))++(⟨4,[125],0⟩::r)):=by
   rw [List.flatMap_cons,tk_append,List.append_assoc]
  have hi:isT 4 [125] (tk (fieldPcs S x)++(tk (l.flatMap (fieldPcs S))++((⟨4,[125],0⟩:Tok)::r)))=false:=rfl
  rw [e]
  unfold fieldsR
  rw [if_neg (by rw [hi];decide),field_is (hl x List.mem_cons_self),bind_ok,fields_is l f _ r (by simpa using h) (fun y hy=>hl y (List.mem_cons_of_mem _ hy)),List.map_cons,List.append_assoc]
  rfl
theorem names_is:∀ (l:List ByteArray) (f:Nat) (acc r:List Tok),l.length<f→(∀ x ∈ l,NameOk x)→namesR f acc (tk (l.flatMap fun n=>[nmP n [],sgP 44 []])++(⟨4,[125],0⟩::r))=.ok (acc++l.map nTok) r
 | [],0,_,_,h,_=>absurd h (Nat.not_lt_zero _)
 | [],f+1,acc,r,_,_=>by
  have e:tk (([]:List ByteArray).flatMap fun n=>[nmP n [],sgP 44 []])++((⟨4,[125],0⟩:Tok)::r)=⟨4,[125],0⟩::r:=rfl
  have hi:isT 4 [125] ((⟨4,[125],0⟩:Tok)::r)=true:=rfl
  rw [e]
  unfold namesR
  rw [if_pos hi,List.map_nil,List.append_nil]
  rfl
 | x::l,0,_,_,h,_=>absurd h (Nat.not_lt_zero _)
 | x::l,f+1,acc,r,h,hl=>by
  have e:tk ((x::l).flatMap fun n=>[nmP n [],sgP 44 []])++((⟨4,[125],0⟩:Tok)::r)=nTok x::⟨4,[44],0⟩::(tk (l.flatMap fun n=>[nmP n [],sgP 44 []])++(⟨4,[125],0⟩::r)):=rfl
  have hi:isT 4 [125] (nTok x::(⟨4,[44],0⟩:Tok)::(tk (l.flatMap fun n=>[nmP n [],sgP 44 []])++(⟨4,[125],0⟩::r)))=false:=rfl
  have hc:isT 4 [125] ((⟨4,[44],0⟩:Tok)::(tk (l.flatMap fun n=>[nmP n [],sgP 44 []])++(⟨4,[125],0⟩::r)))=false:=rfl
  rw [e]
  unfold namesR
  rw [if_neg (by rw [hi];decide),name_is (hl x List.mem_cons_self),bind_ok]
  unfold commaR
  rw [if_neg (by rw [hc];decide),want_is,bind_ok,names_is l f _ r (by simpa using h) (fun y hy=>hl y (List.mem_cons_of_mem _ hy)),List.map_cons,List.append_assoc]
  rfl
theorem flat_len {α:Type}(f:α→List Pc)(hf:∀ a,1≤(f a).length):∀ l:List α,l.length≤(tk (l.flatMap f)).length
 | []=>Nat.zero_le _
 | a::l=>by
  have:=hf a
  have:=flat_len f hf l
  rw [List.flatMap_cons,tk_append,List.length_append,List.length_cons]
  simp only [tk,List.length_map] at *
  omega
theorem rec_is {S:Sch}{x:SRec}(h:NameOk x.name∧∀ f ∈ x.fields,FieldOk S f)(r:List Tok)(a:RRaw):partR a (tk (recPcs S x)++r)=.ok ⟨a.structs++[rRec S x],a.enums,a.roots⟩ r:=by
 have e:tk (recPcs S x)++r=⟨1,wStruct,0⟩::nTok x.name::⟨4,[123],0⟩::(tk (x.fields.flatMap (fieldPcs S))++(⟨4,[125],0⟩::r)):=by
  unfold recPcs
  rw [tk_cons,tk_cons,tk_cons,tk_append]
  simp [tk,pTok,wdP,sgP,nmP,nTok]
 have hi:isT 1 wStruct ((⟨1,wStruct,0⟩:Tok)::nTok x.name::⟨4,[123],0⟩::(tk (x.fields.flatMap (fieldPcs S))++(⟨4,[125],0⟩::r)))=true:=rfl
 rw [e]
 unfold partR
 rw [if_pos hi]
 show ((recR (nTok x.name::_)).bind _)=_
 have hlen:x.fields.length<(tk (x.fields.flatMap (fieldPcs S))++((⟨4,[125],0⟩:Tok)::r)).length:=by
  have:=flat_len (fieldPcs S) (fun f=>by simp [fieldPcs]) x.fields
  rw [List.length_append,List.length_cons]
  omega
 unfold recR
 rw [name_is h.1,bind_ok,want_is,bind_ok,fields_is _ _ _ _ hlen h.2,bind_ok,bind_ok]
 rfl
theorem cho_is {c:SCho}(h:NameOk c.name∧∀ n ∈ c.names,NameOk n)(r:List Tok)(a:RRaw):partR a (tk (enumPcs c)++r)=.ok ⟨a.structs,a.enums++[rCho c],a.roots⟩ r:=by
 have e:tk (enumPcs c)++r=⟨1,wEnum,0⟩::nTok c.name::⟨4,[123],0⟩::(tk (c.names.flatMap fun n=>[nmP n [],sgP 44 []])++(⟨4,[125],0⟩::r)):=by
  unfold enumPcs
  rw [tk_cons,tk_cons,tk_cons,tk_append]
  simp [tk,pTok,wdP,sgP,nmP,nTok]
 have hi0:isT 1 wStruct ((⟨1,wEnum,0⟩:Tok)::nTok c.name::⟨4,[123],0⟩::(tk (c.names.flatMap fun n=>[nmP n [],sgP 44 []])++(⟨4,[125],0⟩::r)))=false:=rfl
 have hi:isT 1 wEnum ((⟨1,wEnum,0⟩:Tok)::nTok c.name::⟨4,[123],0⟩::(tk (c.names.flatMap fun n=>[nmP n [],sgP 44 []])++(⟨4,[125],0⟩::r)))=true:=rfl
 rw [e]
 unfold partR
 rw [if_neg (by rw [hi0];decide),if_pos hi]
 show ((choR (nTok c.name::_)).bind _)=_
 have hlen:c.names.length<(tk (c.names.flatMap fun n=>[nmP n [],sgP 44 []])++((⟨4,[125],0⟩:Tok)::r)).length:=by
  have:=flat_len (fun n=>[nmP n [],sgP 44 []]) (fun n=>by simp) c.names
  rw [List.length_append,List.length_cons]
  omega
 unfold choR
 rw [name_is h.1,bind_ok,want_is,bind_ok,names_is _ _ _ _ hlen h.2,bind_ok,bind_ok]
 rfl
theorem root_is {s:ByteArray}(h:NameOk s)(r:List Tok)(a:RRaw):partR a (⟨1,wRoot,0⟩::nTok s::⟨4,[59],0⟩::r)=.ok ⟨a.structs,a.enums,a.roots++[nTok s]⟩ r:=by
 have hi0:isT 1 wStruct ((⟨1,wRoot,0⟩:Tok)::nTok s::⟨4,[59],0⟩::r)=false:=rfl
 have hi1:isT 1 wEnum ((⟨1,wRoot,0⟩:Tok)::nTok s::⟨4,[59],0⟩::r)=false:=rfl
 have hi:isT 1 wRoot ((⟨1,wRoot,0⟩:Tok)::nTok s::⟨4,[59],0⟩::r)=true:=rfl
 unfold partR
 rw [if_neg (by rw [hi0];decide),if_neg (by rw [hi1];decide),if_pos hi]
 show ((nameR (nTok s::_)).bind _)=_
 rw [name_is h,bind_ok,want_is,bind_ok]
theorem enums_is:∀ (l:List SCho) (f:Nat) (a:RRaw) (r:List Tok),(∀ c ∈ l,NameOk c.name∧∀ n ∈ c.names,NameOk n)→schemaR (l.length+f) a (tk (l.flatMap enumPcs)++r)=schemaR f ⟨a.structs,a.enums++l.map rCho,a.roots⟩ r
 | [],f,a,r,_=>by
  rw [List.map_nil,List.append_nil,List.length_nil,Nat.zero_add]
  rfl
 | c::l,f,a,r,h=>by
  have e:tk ((c::l).flatMap enumPcs)++r=tk (enumPcs c)++(tk (l.flatMap enumPcs)++r):=by rw [List.flatMap_cons,tk_append,List.append_assoc]
  have hk:¬(hd (tk (enumPcs c)++(tk (l.flatMap enumPcs)++r))).kind=0:=by show ¬((1:Int)=0);decide
  rw [e,List.length_cons,Nat.add_right_comm]
  show schemaR (l.length+f+1) a _=_
  rw [schemaR,if_neg hk,cho_is (h c List.mem_cons_self),bind_ok,enums_is l f _ r (fun d hd=>h d (List.mem_cons_of_mem _ hd)),List.map_cons]
  simp
theorem recs_is {S:Sch}:∀ (l:List SRec) (f:Nat) (a:RRaw) (r:List Tok),(∀ x ∈ l,NameOk x.name∧∀ f ∈ x.fields,FieldOk S f)→schemaR (l.length+f) a (tk (l.flatMap (recPcs S))++r)=schemaR f ⟨a.structs++l.map (rRec S),a.enums,a.roots⟩ r
 | [],f,a,r,_=>by
  rw [List.map_nil,List.append_nil,List.length_nil,Nat.zero_add]
  rfl
 | x::l,f,a,r,h=>by
  have e:tk ((x::l).flatMap (recPcs S))++r=tk (recPcs S x)++(tk (l.flatMap (recPcs S))++r):=by rw [List.flatMap_cons,tk_append,List.append_assoc]
  have hk:¬(hd (tk (recPcs S x)++(tk (l.flatMap (recPcs S))++r))).kind=0:=by show ¬((1:Int)=0);decide
  rw [e,List.length_cons,Nat.add_right_comm]
  show schemaR (l.length+f+1) a _=_
  rw [schemaR,if_neg hk,rec_is (h x List.mem_cons_self),bind_ok,recs_is l f _ r (fun d hd=>h d (List.mem_cons_of_mem _ hd)),List.map_cons]
  simp
def eTok:Tok:=⟨0,[],0⟩
theorem schema_is {S:Sch}(h:TextOk S):schemaL noRaw (tk (pcsS S)++[eTok])=.ok (rRaw S) [eTok]:=by
 have e:tk (pcsS S)++[eTok]=tk (S.enums.flatMap enumPcs)++(tk (S.structs.flatMap (recPcs S))++[⟨1,wRoot,0⟩,nTok (rootOf S),⟨4,[59],0⟩,eTok]):=by
  unfold pcsS
  rw [tk_append,tk_append,List.append_assoc,List.append_assoc]
  rfl
 have h1:=flat_len enumPcs (fun c=>by simp [enumPcs]) S.enums
 have h2:=flat_len (recPcs S) (fun c=>by simp [recPcs]) S.structs
 obtain ⟨k,hk⟩:∃ k,(tk (pcsS S)++[eTok]).length=S.enums.length+(S.structs.length+(k+1+1)):=by
  refine ⟨(tk (pcsS S)++[eTok]).length-(S.enums.length+(S.structs.length+2)),?_⟩
  have:(tk (pcsS S)++[eTok]).length=(tk (S.enums.flatMap enumPcs)).length+((tk (S.structs.flatMap (recPcs S))).length+4):=by
   rw [e,List.length_append,List.length_append]
   rfl
  omega
 unfold schemaL
 rw [hk,e,enums_is _ _ _ _ h.cn,recs_is _ _ _ _ h.rn]
 have hk1:¬(hd ((⟨1,wRoot,0⟩:Tok)::nTok (rootOf S)::⟨4,[59],0⟩::[eTok])).kind=0:=by show ¬((1:Int)=0);decide
 have hk2:(hd [eTok]).kind=0:=rfl
 rw [schemaR,if_neg hk1,root_is h.rt,bind_ok,schemaR,if_pos hk2]
 simp [noRaw,rRaw]
theorem raw_text {S:Sch}(h:TextOk S):(∃ a,rawT (textS S)=(a,0,0)∧eRaw a=rRaw S)∨∃ p,rawT (textS S)=(noRaw,16,p):=by
 obtain ⟨h1,h2⟩:=text_ok h
 unfold rawT
 rw [bts_text]
 rcases toks_pieces h1 h2 with ⟨ts,h3,h4⟩|h3
 · rw [h3]
   have h5:=schemaL_er noRaw ts
   have h6:eRaw noRaw=noRaw:=rfl
   rw [h6,h4] at h5
   have h7:(pcsS S).map pTok++[(⟨0,[],0⟩:Tok)]=tk (pcsS S)++[eTok]:=rfl
   rw [h7,schema_is h] at h5
   unfold rawL
   cases hx:schemaL noRaw ts with
   | no c p=>rw [hx] at h5;cases h5
   | ok a r =>
    rw [hx] at h5
    have h8:Res.ok (rRaw S) [eTok]=Res.ok (eRaw a) (eL r):=h5
    injection h8 with h8
    exact .inl ⟨a,by simp [hx],h8.symm⟩
 · refine .inr ?_
   cases hx:toks okU (amg idlSigns) (ren (pcsS S)) with
   | mk l q =>
    obtain ⟨c,p⟩:=q
    rw [hx] at h3
    have h4:c=16:=h3
    subst h4
    exact ⟨p,rfl⟩
end Go.Proofs.YtokhnoogkdlidaaGreatDoor
namespace Go.Proofs.YtokhnoogkdlidaaGreatDoor
open Go.ChangeShapes Go.WideShapes Go.ChangeAt Go.RowKit Go.Shelf
/-! ### places don't matter -/
def MRes.er {α:Type}:MRes α→MRes α
 | .ok a=>.ok a
 | .no c _=>.no c 0
theorem MRes.bind_er {α β:Type}{x y:MRes α}{f g:α→MRes β}(h:y=x.er)(hf:∀ a,g a=(f a).er):y.bind g=(x.bind f).er:=by
 subst h
 cases x with
 | ok a=>exact hf a
 | no c p=>rfl
theorem tokT_er (t:Tok):tokT (eT t)=tokT t:=rfl
theorem map_tokT_er (l:List Tok):(l.map eT).map tokT=l.map tokT:=by rw [List.map_map];rfl
theorem map_fldT_er (l:List RField):(l.map eF).map fldT=l.map fldT:=by rw [List.map_map];rfl
theorem place_er (l:List Tok)(k:Nat):((l.map eT).getD k noTok).place=0:=by
 rw [List.getD,List.getElem?_map]
 cases l[k]?<;>rfl
theorem fplace_er (l:List RField)(k:Nat):((l.map eF).getD k noField).place=0:=by
 rw [List.getD,List.getElem?_map]
 cases l[k]?<;>rfl
theorem choM_er (i:Nat)(m:List NEnt)(x:RCho):choM i m (eC x)=(choM i m x).er:=by
 unfold choM eC
 simp only [List.length_map,map_tokT_er,place_er]
 split
 · rfl
 · split
   · split<;>rfl
   · rfl
theorem chosM_er:∀ (l:List RCho) (i:Nat) (m:List NEnt),chosM i m (l.map eC)=(chosM i m l).er
 | [],_,_=>rfl
 | x::l,i,m=>by
  rw [List.map_cons,chosM,chosM]
  exact MRes.bind_er (choM_er i m x) (fun m'=>chosM_er l (i+1) m')
theorem recM_er (i:Nat)(m:List NEnt)(x:RRec):recM i m (eR x)=(recM i m x).er:=by
 unfold recM eR
 simp only [List.length_map,map_fldT_er,fplace_er]
 split
 · rfl
 · split
   · split<;>rfl
   · rfl
theorem recsM_er:∀ (l:List RRec) (i:Nat) (m:List NEnt),recsM i m (l.map eR)=(recsM i m l).er
 | [],_,_=>rfl
 | x::l,i,m=>by
  rw [List.map_cons,recsM,recsM]
  exact MRes.bind_er (recM_er i m x) (fun m'=>recsM_er l (i+1) m')
theorem chosen_er (es:List RCho)(r:Nat):chosenM (es.map eC) r=chosenM es r:=by
 unfold chosenM
 rw [List.getD,List.getD,List.getElem?_map]
 cases es[r]? with
 | none=>rfl
 | some x=>exact map_tokT_er x.names
theorem valueM_er (es:List RCho)(k r ls:Nat)(w:Tok):valueM (es.map eC) k r ls (eT w)=valueM es k r ls w:=by
 unfold valueM
 rw [chosen_er]
 rfl
theorem fieldM_er (m:List NEnt)(es:List RCho)(f:RField):fieldM m (es.map eC) (eF f)=(fieldM m es f).er:=by
 unfold fieldM
 have e1:(eF f).ty.name=f.ty.name:=rfl
 have e2:(eF f).dflt=eT f.dflt:=rfl
 have e3:(eF f).ty.lists=f.ty.lists:=rfl
 rw [e1,e2,e3]
 split
 · rfl
 · split
   · rfl
   · rw [valueM_er]
     split<;>rfl
theorem fldsM_er (m:List NEnt)(es:List RCho):∀ l:List RField,fldsM m (es.map eC) (l.map eF)=(fldsM m es l).er
 | []=>rfl
 | f::l=>by
  rw [List.map_cons,fldsM,fldsM]
  exact MRes.bind_er (fieldM_er m es f) (fun a=>MRes.bind_er (fldsM_er m es l) (fun _=>rfl))
theorem bodiesM_er (m:List NEnt)(es:List RCho):∀ l:List RRec,bodiesM m (es.map eC) (l.map eR)=(bodiesM m es l).er
 | []=>rfl
 | x::l=>by
  rw [List.map_cons,bodiesM,bodiesM]
  exact MRes.bind_er (fldsM_er m es x.fields) (fun a=>MRes.bind_er (bodiesM_er m es l) (fun _=>rfl))
theorem rootM_er (m:List NEnt)(l:List Tok):rootM m (l.map eT)=(rootM m l).er:=by
 rcases l with _|⟨t,_|⟨u,l⟩⟩
 · rfl
 · rw [List.map_cons,List.map_nil,rootM,rootM,tokT_er]
   split
   · rfl
   · split<;>rfl
 · rfl
theorem makeM_er (a:RRaw):makeM (eRaw a)=(makeM a).er:=by
 unfold makeM
 refine MRes.bind_er (chosM_er a.enums 0 basicN) (fun m1=>MRes.bind_er (recsM_er a.structs 0 m1) (fun m=>MRes.bind_er (bodiesM_er m a.enums a.structs) (fun l=>MRes.bind_er (rootM_er m a.roots) (fun r=>?_))))
 show MRes.ok _=MRes.ok _
 have e:(eRaw a).enums.map choOut=a.enums.map choOut:=by
  show (a.enums.map eC).map choOut=_
  rw [List.map_map]
  refine List.map_congr_left fun x _=>?_
  show (⟨strOfNums x.name,(x.names.map eT).map tokT⟩:SCho)=_
  rw [map_tokT_er]
  rfl
 rw [e]
theorem make_of_er {a:RRaw}{S:Sch}(h:makeM (eRaw a)=.ok S):makeM a=.ok S:=by
 rw [makeM_er] at h
 cases hx:makeM a with
 | ok b=>rw [hx] at h;exact h
 | no c p=>rw [hx] at h;cases h
/-! ### what is printed means the schema -/
theorem tok_nm (n:ByteArray):tokT (nTok n)=n:=strOf_bts n
theorem has_iff (l:List ByteArray)(s:ByteArray):hasS l s=true ↔ s ∈ l:=by
 induction l with
 | nil=>simp [hasS]
 | cons a r ih=>simp [hasS,ih]
theorem dup_none:∀ (l seen:List ByteArray),(seen++l).Nodup→dupFrom seen l=none
 | [],_,_=>rfl
 | s::l,seen,h=>by
  have h1:s ∉ seen:=fun hs=>by
   rw [List.nodup_append] at h
   exact h.2.2 s hs s List.mem_cons_self rfl
  rw [dupFrom,if_neg (fun hh=>h1 ((has_iff seen s).1 hh))]
  exact dup_none l (seen++[s]) (by rw [List.append_assoc];exact h)
theorem look_none:∀ (l:List NEnt) (s:ByteArray),s ∉ l.map NEnt.name→lookN l s=none
 | [],_,_=>rfl
 | q::l,s,h=>by
  rw [List.map_cons,List.mem_cons,not_or] at h
  rw [lookN,if_neg h.1]
  exact look_none l s h.2
theorem look_mem:∀ (l:List NEnt),(l.map NEnt.name).Nodup→∀ q ∈ l,lookN l q.name=some (q.kind,q.ref)
 | [],_,_,h=>by cases h
 | p::l,h,q,hq=>by
  rw [List.map_cons,List.nodup_cons] at h
  rcases List.mem_cons.1 hq with rfl|hq
  · rw [lookN,if_pos rfl]
  · have hne:q.name≠p.name:=fun e=>h.1 (e▸List.mem_map.2 ⟨q,hq,rfl⟩)
    rw [lookN,if_neg hne]
    exact look_mem l h.2 q hq
def entE:Nat→List SCho→List NEnt
 | _,[]=>[]
 | i,c::l=>⟨c.name,10,i⟩::entE (i+1) l
def entS:Nat→List SRec→List NEnt
 | _,[]=>[]
 | i,c::l=>⟨c.name,13,i⟩::entS (i+1) l
theorem entE_names:∀ (l:List SCho) (i:Nat),(entE i l).map NEnt.name=l.map SCho.name
 | [],_=>rfl
 | c::l,i=>by rw [entE,List.map_cons,entE_names l,List.map_cons]
theorem entS_names:∀ (l:List SRec) (i:Nat),(entS i l).map NEnt.name=l.map SRec.name
 | [],_=>rfl
 | c::l,i=>by rw [entS,List.map_cons,entS_names l,List.map_cons]
theorem entE_mem:∀ (l:List SCho) (i k:Nat) (h:k<l.length),(⟨l[k].name,10,i+k⟩:NEnt) ∈ entE i l
 | [],_,_,h=>absurd h (Nat.not_lt_zero _)
 | c::l,i,0,_=>List.mem_cons_self
 | c::l,i,k+1,h=>by
  have:=entE_mem l (i+1) k (by simpa using h)
  rw [Nat.add_right_comm,Nat.add_assoc] at this
  exact List.mem_cons_of_mem _ this
theorem entS_mem:∀ (l:List SRec) (i k:Nat) (h:k<l.length),(⟨l[k].name,13,i+k⟩:NEnt) ∈ entS i l
 | [],_,_,h=>absurd h (Nat.not_lt_zero _)
 | c::l,i,0,_=>List.mem_cons_self
 | c::l,i,k+1,h=>by
  have:=entS_mem l (i+1) k (by simpa using h)
  rw [Nat.add_right_comm,Nat.add_assoc] at this
  exact List.mem_cons_of_mem _ this
theorem chos_is:∀ (l:List SCho) (i:Nat) (m:List NEnt),i+l.length≤8→(∀ c ∈ l,1≤c.names.length∧c.names.length≤32∧c.names.Nodup)→(m.map NEnt.name++l.map SCho.name).Nodup→chosM i m (l.map rCho)=.ok (m++entE i l)
 | [],i,m,_,_,_=>by rw [entE,List.append_nil];rfl
 | c::l,i,m,hi,hc,hn=>by
  have h1:=hc c List.mem_cons_self
  have hm:c.name ∉ m.map NEnt.name:=fun h=>by
   rw [List.nodup_append] at hn
   exact hn.2.2 _ h c.name List.mem_cons_self rfl
  have hd:dup ((rCho c).names.map tokT)=none:=by
   have e:(rCho c).names.map tokT=c.names:=by
    show (c.names.map nTok).map tokT=_
    rw [List.map_map]
    conv=>rhs;rw [←List.map_id c.names]
    exact List.map_congr_left fun n _=>tok_nm n
   rw [e]
   exact dup_none _ [] h1.2.2
  have hl:(rCho c).names.length=c.names.length:=List.length_map _
  have hnm:strOfNums (rCho c).name=c.name:=strOf_bts _
  rw [List.length_cons] at hi
  have hstep:choM i m (rCho c)=.ok (m++[⟨c.name,10,i⟩]):=by
   unfold choM
   rw [hnm,look_none _ _ hm,hl,if_neg (by decide),if_pos ⟨by omega,h1.1,h1.2.1⟩,hd]
  rw [List.map_cons,chosM,hstep,mbind_ok,chos_is l (i+1) _ (by omega) (fun d hd=>hc d (List.mem_cons_of_mem _ hd)) (by rw [List.map_append,List.append_assoc];exact hn),entE,List.append_assoc]
  rfl
theorem recs_ok {S:Sch}:∀ (l:List SRec) (i:Nat) (m:List NEnt),i+l.length≤16→(∀ c ∈ l,1≤c.fields.length∧c.fields.length≤16∧(c.fields.map SFld.name).Nodup)→(m.map NEnt.name++l.map SRec.name).Nodup→recsM i m (l.map (rRec S))=.ok (m++entS i l)
 | [],i,m,_,_,_=>by rw [entS,List.append_nil];rfl
 | c::l,i,m,hi,hc,hn=>by
  have h1:=hc c List.mem_cons_self
  have hm:c.name ∉ m.map NEnt.name:=fun h=>by
   rw [List.nodup_append] at hn
   exact hn.2.2 _ h c.name List.mem_cons_self rfl
  have hd:dup ((rRec S c).fields.map fldT)=none:=by
   have e:(rRec S c).fields.map fldT=c.fields.map SFld.name:=by
    show (c.fields.map (rFld S)).map fldT=_
    rw [List.map_map]
    exact List.map_congr_left fun n _=>strOf_bts n.name
   rw [e]
   exact dup_none _ [] h1.2.2
  have hl:(rRec S c).fields.length=c.fields.length:=List.length_map _
  have hnm:strOfNums (rRec S c).name=c.name:=strOf_bts _
  rw [List.length_cons] at hi
  have hstep:recM i m (rRec S c)=.ok (m++[⟨c.name,13,i⟩]):=by
   unfold recM
   rw [hnm,look_none _ _ hm,hl,if_neg (by decide),if_pos ⟨by omega,h1.1,h1.2.1⟩,hd]
  rw [List.map_cons,recsM,hstep,mbind_ok,recs_ok l (i+1) _ (by omega) (fun d hd=>hc d (List.mem_cons_of_mem _ hd)) (by rw [List.map_append,List.append_assoc];exact hn),entS,List.append_assoc]
  rfl
structure MeansOk (S:Sch):Prop where
 ne:S.enums.length≤8
 ns:S.structs.length≤16
 nn:∀ c ∈ S.enums,1≤c.names.length∧c.names.length≤32∧c.names.Nodup
 nf:∀ r ∈ S.structs,1≤r.fields.length∧r.fields.length≤16∧(r.fields.map SFld.name).Nodup
 nd:(basicN.map NEnt.name++S.enums.map SCho.name++S.structs.map SRec.name).Nodup
 ty:∀ r ∈ S.structs,∀ f ∈ r.fields,(f.kind=10∧f.ref<S.enums.length)∨(f.kind=13∧f.ref<S.structs.length)∨((⟨baseOf S f,f.kind,f.ref⟩:NEnt) ∈ basicN∧f.kind≠0)
 vl:∀ r ∈ S.structs,∀ f ∈ r.fields,valueM (S.enums.map rCho) f.kind f.ref f.lists (rDef S.enums f)=some f.dflt
 rt:S.root<S.structs.length
def tabOf (S:Sch):List NEnt:=basicN++entE 0 S.enums++entS 0 S.structs
theorem MeansOk.nodup {S:Sch}(h:MeansOk S):((tabOf S).map NEnt.name).Nodup:=by
 unfold tabOf
 rw [List.map_append,List.map_append,entE_names,entS_names]
 exact h.nd
theorem base_is {S:Sch}(h:MeansOk S){r:SRec}(hr:r ∈ S.structs){f:SFld}(hf:f ∈ r.fields):lookN (tabOf S) (baseOf S f)=some (f.kind,f.ref)∧f.kind≠0:=by
 rcases h.ty r hr f hf with ⟨hk,hl⟩|⟨hk,hl⟩|⟨hm,hk⟩
 · have e:baseOf S f=S.enums[f.ref].name:=by
    unfold baseOf tyBaseS
    rw [if_pos hk,List.getD,List.getElem?_eq_getElem hl,Option.getD_some]
   have:=look_mem (tabOf S) h.nodup _ (List.mem_append_left _ (List.mem_append_right _ (entE_mem S.enums 0 f.ref hl)))
   rw [e,this,hk,Nat.zero_add]
   exact ⟨rfl,by decide⟩
 · have e:baseOf S f=S.structs[f.ref].name:=by
    unfold baseOf tyBaseS
    rw [if_neg (by omega),if_pos hk,List.getD,List.getElem?_eq_getElem hl,Option.getD_some]
   have:=look_mem (tabOf S) h.nodup _ (List.mem_append_right _ (entS_mem S.structs 0 f.ref hl))
   rw [e,this,hk,Nat.zero_add]
   exact ⟨rfl,by decide⟩
 · exact ⟨look_mem (tabOf S) h.nodup _ (List.mem_append_left _ (List.mem_append_left _ hm)),hk⟩
theorem fieldM_is {S:Sch}(h:MeansOk S){r:SRec}(hr:r ∈ S.structs){f:SFld}(hf:f ∈ r.fields):fieldM (tabOf S) (S.enums.map rCho) (rFld S f)=.ok f:=by
 obtain ⟨h1,h2⟩:=base_is h hr hf
 have e1:strOfNums (rFld S f).ty.name=baseOf S f:=strOf_bts _
 have e2:strOfNums (rFld S f).name=f.name:=strOf_bts _
 have e3:(rFld S f).ty.lists=f.lists:=rfl
 have e4:(rFld S f).dflt=rDef S.enums f:=rfl
 unfold fieldM
 rw [e1,h1]
 simp only [e2,e3,e4,h.vl r hr f hf]
 rw [if_neg h2]
theorem fldsM_is {S:Sch}(h:MeansOk S){r:SRec}(hr:r ∈ S.structs):∀ l:List SFld,(∀ f ∈ l,f ∈ r.fields)→fldsM (tabOf S) (S.enums.map rCho) (l.map (rFld S))=.ok l
 | [],_=>rfl
 | f::l,hl=>by
  rw [List.map_cons,fldsM,fieldM_is h hr (hl f List.mem_cons_self),mbind_ok,fldsM_is h hr l (fun g hg=>hl g (List.mem_cons_of_mem _ hg)),mbind_ok]
theorem bodiesM_is {S:Sch}(h:MeansOk S):∀ l:List SRec,(∀ r ∈ l,r ∈ S.structs)→bodiesM (tabOf S) (S.enums.map rCho) (l.map (rRec S))=.ok l
 | [],_=>rfl
 | r::l,hl=>by
  have e1:(rRec S r).fields=r.fields.map (rFld S):=rfl
  have e2:strOfNums (rRec S r).name=r.name:=strOf_bts _
  rw [List.map_cons,bodiesM,e1,fldsM_is h (hl r List.mem_cons_self) r.fields (fun _ h=>h),mbind_ok,bodiesM_is h l (fun q hq=>hl q (List.mem_cons_of_mem _ hq)),mbind_ok,e2]
theorem make_is {S:Sch}(h:MeansOk S):makeM (rRaw S)=.ok S:=by
 have hn:=h.nd
 have h1:=chos_is S.enums 0 basicN (by have:=h.ne;omega) h.nn (List.nodup_append.1 hn).1
 have h2:=recs_ok (S:=S) S.structs 0 (basicN++entE 0 S.enums) (by have:=h.ns;omega) h.nf (by rw [List.map_append,entE_names];exact hn)
 have hroot:lookN (tabOf S) (rootOf S)=some (13,S.root):=by
  have e:rootOf S=(S.structs[S.root]'(h.rt)).name:=by
   unfold rootOf
   rw [List.getD,List.getElem?_eq_getElem h.rt,Option.getD_some]
  have:=look_mem (tabOf S) h.nodup _ (List.mem_append_right _ (entS_mem S.structs 0 S.root h.rt))
  rw [e,this,Nat.zero_add]
 have hout:(S.enums.map rCho).map choOut=S.enums:=by
  rw [List.map_map]
  conv=>rhs;rw [←List.map_id S.enums]
  refine List.map_congr_left fun c _=>?_
  show (⟨strOfNums (bts c.name),(c.names.map nTok).map tokT⟩:SCho)=c
  have e:(c.names.map nTok).map tokT=c.names:=by
   rw [List.map_map]
   conv=>rhs;rw [←List.map_id c.names]
   exact List.map_congr_left fun n _=>tok_nm n
  rw [e,strOf_bts]
 unfold makeM
 show (chosM 0 basicN (S.enums.map rCho)).bind _=_
 rw [h1,mbind_ok]
 show (recsM 0 (basicN++entE 0 S.enums) (S.structs.map (rRec S))).bind _=_
 rw [h2,mbind_ok]
 show (bodiesM (tabOf S) (S.enums.map rCho) (S.structs.map (rRec S))).bind _=_
 rw [bodiesM_is h S.structs (fun _ h=>h),mbind_ok]
 have hr:rootM (tabOf S) [nTok (rootOf S)]=.ok S.root:=by
  rw [rootM,tok_nm,hroot]
  rfl
 show (rootM (tabOf S) [nTok (rootOf S)]).bind _=_
 rw [hr,mbind_ok]
 show MRes.ok (⟨S.structs,(S.enums.map rCho).map choOut,S.root⟩:Sch)=_
 rw [hout]
theorem read_text {S:Sch}(ht:TextOk S)(hm:MeansOk S):(rawT (textS S)).2.1=0∧makeM (rawT (textS S)).1=.ok S∨(rawT (textS S)).2.1=16:=by
 rcases raw_text ht with ⟨a,h1,h2⟩|⟨p,h1⟩
 · rw [h1]
   exact .inl ⟨rfl,make_of_er (by rw [h2];exact make_is hm)⟩
 · rw [h1]
   exact .inr rfl
end Go.Proofs.YtokhnoogkdlidaaGreatDoor
namespace Go.Proofs.YtokhnoogkdlidaaGreatDoor
open Go.ChangeShapes Go.WideShapes Go.ChangeAt Go.RowKit
theorem arr_litSt (t:Array Value)(h:t.size=70):t=((List.range 70).map fun n=>t.getD n undef).toArray:=by
 apply Array.ext'
 apply List.ext_getElem?
 intro i
 by_cases hi:i<70
 · have h':i<t.size:=by omega
   simp [hi,h',Array.getD]
 · have h':¬i<t.size:=by omega
   simp [hi,h']
set_option maxRecDepth 100000 in
theorem lit_allSt (u:Nat→Value):((List.range 70).map u).toArray=#[u 0,u 1,u 2,u 3,u 4,u 5,u 6,u 7,u 8,u 9,u 10,u 11,u 12,u 13,u 14,u 15,u 16,u 17,u 18,u 19,u 20,u 21,u 22,u 23,u 24,u 25,u 26,u 27,u 28,u 29,u 30,u 31,u 32,u 33,u 34,u 35,u 36,u 37,u 38,u 39,u 40,u 41,u 42,u 43,u 44,u 45,u 46,u 47,u 48,u 49,u 50,u 51,u 52,u 53,u 54,u 55,u 56,u 57,u 58,u 59,u 60,u 61,u 62,u 63,u 64,u 65,u 66,u 67,u 68,u 69]:=rfl
structure StO (M R:Nat)(a:Option Addr)(n e k:Nat)(c:Act):Prop where
 df:c.defers=[]
 sz:c.tmps.size=70
 s0:c.tmps.getD 0 undef=.pointer (some ⟨M,0,none⟩)
 s2:c.tmps.getD 2 undef=.pointer (some ⟨R,0,none⟩)
 s12:c.tmps.getD 12 undef=.slice a n e
 s13:c.tmps.getD 13 undef=.int .i64 n
 s14:c.tmps.getD 14 undef=.int .i64 k
set_option maxRecDepth 100000 in
theorem StO.lit {M R:Nat}{a:Option Addr}{n e k:Nat}{c:Act}(h:StO M R a n e k c):∃ u:Nat→Value,c=⟨#[.pointer (some ⟨M,0,none⟩),u 1,.pointer (some ⟨R,0,none⟩),u 3,u 4,u 5,u 6,u 7,u 8,u 9,u 10,u 11,.slice a n e,.int .i64 n,.int .i64 k,u 15,u 16,u 17,u 18,u 19,u 20,u 21,u 22,u 23,u 24,u 25,u 26,u 27,u 28,u 29,u 30,u 31,u 32,u 33,u 34,u 35,u 36,u 37,u 38,u 39,u 40,u 41,u 42,u 43,u 44,u 45,u 46,u 47,u 48,u 49,u 50,u 51,u 52,u 53,u 54,u 55,u 56,u 57,u 58,u 59,u 60,u 61,u 62,u 63,u 64,u 65,u 66,u 67,u 68,u 69],[]⟩:=by
 obtain ⟨hd,hs,h0,h2,h12,h13,h14⟩:=h
 refine ⟨fun n=>c.tmps.getD n undef,?_⟩
 obtain ⟨t,d⟩:=c
 simp only at hd hs h0 h2 h12 h13 h14 ⊢
 subst hd
 congr 1
 refine (arr_litSt t hs).trans ?_
 rw [lit_allSt]
 simp only [h0,h2,h12,h13,h14]
end Go.Proofs.YtokhnoogkdlidaaGreatDoor
