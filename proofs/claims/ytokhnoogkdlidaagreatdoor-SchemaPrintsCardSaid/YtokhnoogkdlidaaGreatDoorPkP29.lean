/-
  The document's own has and Text: a sign among some; whether bytes are a text. Conditions: those that each theorem names; the library's tables hold what the row lists.
-/
import Derived.Test.YtokhnoogkdlidaaGreatDoorPkP5
import Derived.Test.YtokhnoogkdlidaaGreatDoorPkP7
import Derived.Test.YtokhnoogkdlidaaGreatDoorPkP12
import Derived.Test.YtokhnoogkdlidaaGreatDoorPkP20
import Derived.Test.YtokhnoogkdlidaaGreatDoorPkP25
namespace Go.Proofs.YtokhnoogkdlidaaGreatDoor
open Go.RowKit
structure Pc where
 k:Int
 x:List Int
 g:List Int
def pTok (q:Pc):Tok:=⟨q.k,q.x,0⟩
def ren (l:List Pc):List Int:=l.flatMap fun q=>full (pTok q)++q.g
theorem ren_cons (q:Pc)(l:List Pc):ren (q::l)=full (pTok q)++(q.g++ren l):=by simp [ren]
theorem ren_append (a b:List Pc):ren (a++b)=ren a++ren b:=by simp [ren]
def blanks (g:List Int):Prop:=∀ c ∈ g,isBlank c=true
def PcOk (ok:List Int→Bool)(sg:Int→Bool)(q:Pc):Prop:=
 blanks q.g∧((q.k=1∧q.x≠[]∧isLet (q.x.getD 0 0)=true∧∀ c ∈ q.x,(isLet c||isDig c)=true)∨(q.k=2∧goodN q.x=true)∨(q.k=3∧(∀ c ∈ q.x,isPlain c=true)∧ok q.x=true) ∨
  (q.k=4∧∃ c,q.x=[c]∧sg c=true∧isLet c=false∧isDig c=false∧c≠34∧c≠45∧isBlank c=false∧c≠47))
def glued:List Pc→Prop
 | []=>True
 | q::l=>(q.k=3∨q.k=4∨q.g≠[]∨∃ p r,l=p::r∧p.k=4)∧glued l
theorem PcOk.kind {ok:List Int→Bool}{sg:Int→Bool}{q:Pc}(h:PcOk ok sg q):q.k≠0:=by
 rcases h.2 with h|h|h|h<;>(have:=h.1;omega)
theorem sep_cons {c:Int}{r:List Int}(h1:isLet c=false)(h2:isDig c=false):Sep (c::r):=by
 have e:∀ p,stA (c::r) p 0=p c:=fun p=>stA_of (by simp)
 exact ⟨by rw [e];exact h1,by rw [e];exact h2⟩
theorem blank_sep {c:Int}(h:isBlank c=true):isLet c=false∧isDig c=false:=by
 have h1:=of_decide_eq_true h
 exact ⟨decide_eq_false (by omega),decide_eq_false (by omega)⟩
theorem PcOk.solid {ok:List Int→Bool}{sg:Int→Bool}{q:Pc}(h:PcOk ok sg q)(r:List Int):Solid (full (pTok q)++r):=by
 rcases h.2 with ⟨h1,h2,h3,h4⟩|⟨h1,h2⟩|⟨h1,h2,h3⟩|⟨h1,c,h2,_,_,_,_,_,h3,h4⟩
 · rw [pTok,full_plain _ _ _ (by omega)]
   obtain ⟨c,s,hx⟩:=List.exists_cons_of_ne_nil h2
   rw [hx] at h3 ⊢
   have h5:isLet c=true:=h3
   have h6:=of_decide_eq_true h5
   exact solid_cons (decide_eq_false (by omega)) (by omega)
 · rw [pTok,full_plain _ _ _ (by omega)]
   obtain ⟨hne,_,hb⟩:=good_head h2
   obtain ⟨c,s,hx⟩:=List.exists_cons_of_ne_nil hne
   have h3:=hb []
   rw [List.append_nil,hx] at h3
   rw [hx]
   have e:∀ p,stA (c::s) p 0=p c:=fun p=>stA_of (by simp)
   unfold begins at h3
   rw [e,e] at h3
   have h5:isDig c=true∨c=45:=by
    rcases Bool.or_eq_true _ _▸h3 with h|h
    · exact .inl h
    · exact .inr (of_decide_eq_true ((Bool.and_eq_true _ _▸h).1))
   rcases h5 with h5|h5
   · have h6:=of_decide_eq_true h5
     exact solid_cons (decide_eq_false (by omega)) (by omega)
   · subst h5
     exact solid_cons rfl (by decide)
 · rw [pTok,h1,full_quo]
   exact solid_cons rfl (by decide)
 · rw [pTok,full_plain _ _ _ (by omega),h2]
   exact solid_cons h3 h4
theorem tok_of_sign2 {ok:List Int→Bool}{sg:Int→Bool}{c:Int}{rest:List Int}(h1:sg c=true)(h2:isLet c=false)(h3:isDig c=false)(h4:c≠34)(h5:c≠45):tok ok sg (c::rest) 0=some (⟨4,[c],0⟩,1):=by
 have hl:0<(c::rest).length:=by simp
 have e:∀ p,stA (c::rest) p 0=p c:=fun p=>stA_of hl
 have hb:begins (c::rest) 0=false:=by
  unfold begins
  rw [e,e,h3,Bool.false_or,show isC 45 c=false from decide_eq_false h5,Bool.false_and]
 rw [tok_sign hl (by rw [e];exact h2) hb (by rw [e];exact decide_eq_false h4) (by rw [e];exact h1)]
 rfl
theorem PcOk.tok {ok:List Int→Bool}{sg:Int→Bool}{q:Pc}(h:PcOk ok sg q){r:List Int}(hr:q.k=3∨q.k=4∨Sep r):tok ok sg (full (pTok q)++r) 0=some (⟨q.k,q.x,0⟩,(full (pTok q)).length):=by
 rcases h.2 with ⟨h1,h2,h3,h4⟩|⟨h1,h2⟩|⟨h1,h2,h3⟩|⟨h1,c,h2,h3,h4,h5,h6,h7,_⟩
 · have hs:Sep r:=by rcases hr with h|h|h<;>first|exact h|omega
   rw [pTok,full_plain _ _ _ (by omega),h1]
   exact tok_of_name h2 h3 h4 hs
 · have hs:Sep r:=by rcases hr with h|h|h<;>first|exact h|omega
   rw [pTok,full_plain _ _ _ (by omega),h1]
   exact tok_of_num h2 hs
 · rw [pTok,h1,full_quo]
   have e:(34::(q.x++[34]))++r=34::(q.x++34::r):=by simp
   rw [e,tok_of_quo h2 h3]
   simp
 · rw [pTok,full_plain _ _ _ (by omega),h1,h2]
   exact tok_of_sign2 h3 h4 h5 h6 h7
theorem gap_blanks {zs:List Int}:∀ (b s:List Int) (i:Nat),zs.drop i=b++s→blanks b→Solid s→gap zs i=i+b.length
 | [],s,i,h,_,hS=>gap_solid h hS
 | c::b,s,i,h,hb,hS=>by
  rw [gap_cons h (hb c List.mem_cons_self),gap_blanks b s (i+1) (drop_succ h).1 (fun d hd=>hb d (List.mem_cons_of_mem _ hd)) hS,List.length_cons]
  omega
theorem next_sep {ok:List Int→Bool}{sg:Int→Bool}{q:Pc}{l:List Pc}(hq:blanks q.g)(hl:∀ p ∈ l,PcOk ok sg p)(h:q.g≠[]∨∃ p r,l=p::r∧p.k=4):Sep (q.g++ren l):=by
 rcases h with h|⟨p,r,rfl,hp⟩
 · obtain ⟨c,s,hx⟩:=List.exists_cons_of_ne_nil h
   have:=blank_sep (hq c (by rw [hx];exact List.mem_cons_self))
   rw [hx]
   exact sep_cons this.1 this.2
 · by_cases hg:q.g=[]
   · rw [hg,List.nil_append,ren_cons]
     rcases (hl p List.mem_cons_self).2 with h|h|h|⟨h1,c,h2,h3,h4,h5,h6,h7,_⟩
     · have:=h.1;omega
     · have:=h.1;omega
     · have:=h.1;omega
     · rw [pTok,full_plain _ _ _ (by omega),h2]
       exact sep_cons h4 h5
   · obtain ⟨c,s,hx⟩:=List.exists_cons_of_ne_nil hg
     have:=blank_sep (hq c (by rw [hx];exact List.mem_cons_self))
     rw [hx]
     exact sep_cons this.1 this.2
theorem pcs_chain {ok:List Int→Bool}{sg:Int→Bool}{zs:List Int}:∀ (l:List Pc) (g:List Int) (i:Nat),(∀ q ∈ l,PcOk ok sg q)→glued l→blanks g→i≤zs.length→zs.drop i=g++ren l→∃ ts,Chain ok sg zs i ts∧eL ts=l.map pTok++[⟨0,[],0⟩]
 | [],g,i,_,_,hg,hi,h=>by
  have hz:gap zs i=i+g.length:=gap_blanks g [] i h hg ⟨rfl,rfl⟩
  have hl:zs.length=i+g.length:=by
   have:=congrArg List.length h
   rw [List.length_drop] at this
   simp [ren] at this
   omega
  exact ⟨[⟨0,[],gap zs i⟩],⟨_,tok_end (by omega),.inl ⟨rfl,rfl⟩⟩,rfl⟩
 | q::l,g,i,hq,hgl,hg,hi,h=>by
  have hok:=hq q List.mem_cons_self
  rw [ren_cons] at h
  have hz:gap zs i=i+g.length:=gap_blanks g _ i h hg (hok.solid _)
  have hd:zs.drop (i+g.length)=full (pTok q)++(q.g++ren l):=by
   rw [←List.drop_drop,h,List.drop_left]
  have hle:i+g.length≤zs.length:=by
   have:=congrArg List.length h
   rw [List.length_drop] at this
   simp at this
   omega
  have hlen:i+g.length+(full (pTok q)).length≤zs.length:=by
   have:=congrArg List.length hd
   rw [List.length_drop] at this
   simp at this
   omega
  have hs:q.k=3∨q.k=4∨Sep (q.g++ren l):=by
   rcases hgl.1 with h|h|h
   · exact .inl h
   · exact .inr (.inl h)
   · exact .inr (.inr (next_sep hok.1 (fun p hp=>hq p (List.mem_cons_of_mem _ hp)) h))
  have ht:tok ok sg zs (gap zs i)=some (⟨q.k,q.x,i+g.length+0⟩,i+g.length+(full (pTok q)).length):=by
   rw [hz,tok_drop ok sg zs _ hle,hd,hok.tok hs]
   rfl
  obtain ⟨ts,h1,h2⟩:=pcs_chain l q.g (i+g.length+(full (pTok q)).length) (fun p hp=>hq p (List.mem_cons_of_mem _ hp)) hgl.2 hok.1 hlen (by rw [←List.drop_drop,hd,List.drop_left])
  refine ⟨_::ts,⟨_,ht,.inr ⟨hok.kind,h1⟩⟩,?_⟩
  show eT _::eL ts=_
  rw [h2]
  rfl
theorem toks_pieces {ok:List Int→Bool}{sg:Int→Bool}{l:List Pc}(h:∀ q ∈ l,PcOk ok sg q)(hg:glued l):(∃ ts,toks ok sg (ren l)=(ts,0,0)∧eL ts=l.map pTok++[⟨0,[],0⟩])∨(toks ok sg (ren l)).2.1=16:=by
 by_cases hz:(ren l).length≤8192
 · obtain ⟨ts,h1,h2⟩:=pcs_chain (zs:=ren l) l [] 0 h hg (fun c hc=>by cases hc) (Nat.zero_le _) rfl
   rcases toks_of_chain hz h1 with ⟨h3,_⟩|h3
   · exact .inl ⟨ts,h3,h2⟩
   · exact .inr h3
 · refine .inr ?_
   unfold toks
   rw [if_pos (by omega)]
def Gl (l:List Pc):Prop:=∀ r,glued r→glued (l++r)
theorem gl_nil:Gl []:=fun _ h=>h
theorem Gl.append {a b:List Pc}(ha:Gl a)(hb:Gl b):Gl (a++b):=fun r h=>by
 rw [List.append_assoc]
 exact ha _ (hb r h)
theorem gl_flat {α:Type}(f:α→List Pc):∀ l:List α,(∀ a ∈ l,Gl (f a))→Gl (l.flatMap f)
 | [],_=>gl_nil
 | a::l,h=>by
  rw [List.flatMap_cons]
  exact (h a List.mem_cons_self).append (gl_flat f l (fun b hb=>h b (List.mem_cons_of_mem _ hb)))
theorem Gl.cons {q:Pc}{l:List Pc}(h:q.k=3∨q.k=4∨q.g≠[])(hl:Gl l):Gl (q::l):=fun r hr=>by
 refine ⟨?_,hl r hr⟩
 rcases h with h|h|h
 · exact .inl h
 · exact .inr (.inl h)
 · exact .inr (.inr (.inl h))
theorem Gl.cons2 {q p:Pc}{l:List Pc}(h:p.k=4)(hl:Gl (p::l)):Gl (q::p::l):=fun r hr=>⟨.inr (.inr (.inr ⟨p,l++r,rfl,h⟩)),hl r hr⟩
theorem Gl.glued {l:List Pc}(h:Gl l):glued l:=by
 have:=h [] trivial
 rwa [List.append_nil] at this
end Go.Proofs.YtokhnoogkdlidaaGreatDoor
namespace Go.Proofs.YtokhnoogkdlidaaGreatDoor
open Go.ChangeShapes Go.WideShapes Go.ChangeAt Go.RowKit Go.Shelf
theorem bts_app (a b:ByteArray):bts (a++b)=bts a++bts b:=by simp [bts]
def nmP (s:ByteArray)(g:List Int):Pc:=⟨1,bts s,g⟩
def wdP (w g:List Int):Pc:=⟨1,w,g⟩
def sgP (c:Int)(g:List Int):Pc:=⟨4,[c],g⟩
def enumPcs (c:SCho):List Pc:=wdP wEnum [32]::nmP c.name [32]::sgP 123 []::((c.names.flatMap fun n=>[nmP n [],sgP 44 []])++[sgP 125 [10]])
def tyPcs (B:ByteArray):Nat→List Int→List Pc
 | 0,g=>[nmP B g]
 | n+1,g=>wdP wList []::sgP 60 []::(tyPcs B n []++[sgP 62 g])
def defPc (es:List SCho)(f:SFld):Pc:=if f.kind=1 then wdP [116,114,117,101] [] else if f.kind=10 then nmP ((es.getD f.ref noCho).names.getD f.dflt ⟨#[]⟩) [] else ⟨2,bts (decS (kSign f.kind) f.dflt),[]⟩
def baseOf (S:Sch)(f:SFld):ByteArray:=tyBaseS S.structs S.enums f.kind f.ref
def tailPcs (S:Sch)(f:SFld):List Pc:=if f.dflt≠0 then tyPcs (baseOf S f) f.lists [32]++[sgP 61 [32],defPc S.enums f,sgP 59 [10]] else tyPcs (baseOf S f) f.lists []++[sgP 59 [10]]
def fieldPcs (S:Sch)(f:SFld):List Pc:=⟨3,bts f.name,[]⟩::sgP 58 [32]::tailPcs S f
def recPcs (S:Sch)(r:SRec):List Pc:=wdP wStruct [32]::nmP r.name [32]::sgP 123 [10]::(r.fields.flatMap (fieldPcs S)++[sgP 125 [10]])
def rootOf (S:Sch):ByteArray:=(S.structs.getD S.root noRec).name
def pcsS (S:Sch):List Pc:=S.enums.flatMap enumPcs++(S.structs.flatMap (recPcs S)++[wdP wRoot [32],nmP (rootOf S) [],sgP 59 [10]])
theorem foldl_bts {α:Type}(f:ByteArray→α→ByteArray)(p:α→List Pc)(h:∀ t a,bts (f t a)=bts t++ren (p a)):∀ (l:List α) (t:ByteArray),bts (l.foldl f t)=bts t++ren (l.flatMap p)
 | [],t=>by simp [ren]
 | a::l,t=>by
  rw [List.foldl_cons,foldl_bts f p h l,h,List.flatMap_cons,ren_append,List.append_assoc]
theorem ren_nm (s:ByteArray)(g:List Int)(l:List Pc):ren (nmP s g::l)=bts s++(g++ren l):=by rw [ren_cons];rfl
theorem ren_wd (w g:List Int)(l:List Pc):ren (wdP w g::l)=w++(g++ren l):=by rw [ren_cons];rfl
theorem ren_sg (c:Int)(g:List Int)(l:List Pc):ren (sgP c g::l)=[c]++(g++ren l):=by rw [ren_cons];rfl
theorem ren_nil:ren []=[]:=rfl
theorem ren_quo (x g:List Int)(l:List Pc):ren (⟨3,x,g⟩::l)=34::(x++34::(g++ren l)):=by rw [ren_cons,pTok,full_quo];simp
theorem ren_num (x g:List Int)(l:List Pc):ren (⟨2,x,g⟩::l)=x++(g++ren l):=by rw [ren_cons];rfl
theorem ren_ty (B:ByteArray):∀ (n:Nat) (g:List Int),ren (tyPcs B n g)=bts (wordS B n)++g
 | 0,g=>by rw [tyPcs,ren_nm,ren_nil,List.append_nil];rfl
 | n+1,g=>by
  rw [tyPcs,ren_wd,ren_sg,ren_append,ren_ty B n,ren_sg,ren_nil,wordS,bts_app,bts_app]
  have e1:bts ⟨#[108,105,115,116,60]⟩=wList++[60]:=rfl
  have e2:bts ⟨#[62]⟩=[62]:=rfl
  rw [e1,e2]
  simp
theorem ren_def (es:List SCho)(f:SFld)(l:List Pc):ren (defPc es f::l)=bts (defS es f.kind f.ref f.dflt)++ren l:=by
 unfold defPc defS
 split
 · rw [ren_wd];rfl
 · split
   · rw [ren_nm];rfl
   · rw [ren_num];rfl
theorem bts_field (S:Sch)(t:ByteArray)(f:SFld):bts (textField S t f)=bts t++ren (fieldPcs S f):=by
 have e1:bts ⟨#[34]⟩=[34]:=rfl
 have e2:bts ⟨#[34,58,32]⟩=[34,58,32]:=rfl
 have e3:bts ⟨#[32,61,32]⟩=[32,61,32]:=rfl
 have e4:bts ⟨#[59,10]⟩=[59,10]:=rfl
 unfold textField fieldPcs tailPcs
 rw [ren_quo,ren_sg]
 by_cases h:f.dflt≠0
 · rw [if_pos h,if_pos h,ren_append,ren_ty,ren_sg,ren_def,ren_sg,ren_nil]
   simp only [bts_app,e1,e2,e3,e4,baseOf]
   simp
 · rw [if_neg h,if_neg h,ren_append,ren_ty,ren_sg,ren_nil]
   simp only [bts_app,e1,e2,e4,baseOf]
   simp
theorem bts_rec (S:Sch)(t:ByteArray)(r:SRec):bts (textRec S t r)=bts t++ren (recPcs S r):=by
 have e1:bts ⟨#[115,116,114,117,99,116,32]⟩=wStruct++[32]:=rfl
 have e2:bts ⟨#[32,123,10]⟩=[32,123,10]:=rfl
 have e3:bts ⟨#[125,10]⟩=[125,10]:=rfl
 unfold textRec recPcs textFields
 rw [bts_app,foldl_bts _ _ (bts_field S),ren_wd,ren_nm,ren_sg,ren_append,ren_sg,ren_nil]
 simp only [bts_app,e1,e2,e3]
 simp
theorem bts_enum (t:ByteArray)(c:SCho):bts (textEnum t c)=bts t++ren (enumPcs c):=by
 have e1:bts ⟨#[101,110,117,109,32]⟩=wEnum++[32]:=rfl
 have e2:bts ⟨#[32,123]⟩=[32,123]:=rfl
 have e3:bts ⟨#[125,10]⟩=[125,10]:=rfl
 have e4:bts ⟨#[44]⟩=[44]:=rfl
 unfold textEnum enumPcs textVals
 rw [bts_app,foldl_bts _ (fun n=>[nmP n [],sgP 44 []]) (fun t n=>by rw [bts_app,bts_app,ren_nm,ren_sg,ren_nil,e4];simp),ren_wd,ren_nm,ren_sg,ren_append,ren_sg,ren_nil]
 simp only [bts_app,e1,e2,e3]
 simp
theorem bts_text (S:Sch):bts (textS S)=ren (pcsS S):=by
 have e0:bts ⟨#[]⟩=[]:=rfl
 have e1:bts ⟨#[114,111,111,116,32]⟩=wRoot++[32]:=rfl
 have e2:bts ⟨#[59,10]⟩=[59,10]:=rfl
 unfold textS pcsS textRecs textEnums
 rw [bts_app,bts_app,bts_app,foldl_bts _ _ (bts_rec S),foldl_bts _ _ bts_enum,ren_append,ren_append,ren_wd,ren_nm,ren_sg,ren_nil,e0,e1,e2]
 simp [rootOf]
/-! ### pieces that may be -/
def NameOk (s:ByteArray):Prop:=bts s≠[]∧isLet ((bts s).getD 0 0)=true∧(∀ c ∈ bts s,(isLet c||isDig c)=true)∧(bts s).length≤40
def LabelOk (s:ByteArray):Prop:=bts s≠[]∧(∀ c ∈ bts s,isPlain c=true)∧okU (bts s)=true∧(bts s).length≤40
structure FieldOk (S:Sch)(f:SFld):Prop where
 lab:LabelOk f.name
 base:NameOk (baseOf S f)∧bts (baseOf S f)≠wList
 lists:f.lists≤3
 dflt:f.dflt≠0→PcOk okU (amg idlSigns) (defPc S.enums f)
structure TextOk (S:Sch):Prop where
 cn:∀ c ∈ S.enums,NameOk c.name∧∀ n ∈ c.names,NameOk n
 rn:∀ r ∈ S.structs,NameOk r.name∧∀ f ∈ r.fields,FieldOk S f
 rt:NameOk (rootOf S)
theorem blank_nil:blanks []:=fun _ h=>by cases h
theorem blank_32:blanks [32]:=fun c h=>by rw [List.mem_singleton.1 h];rfl
theorem blank_10:blanks [10]:=fun c h=>by rw [List.mem_singleton.1 h];rfl
theorem nm_ok {s:ByteArray}{g:List Int}(h:NameOk s)(hg:blanks g):PcOk okU (amg idlSigns) (nmP s g):=⟨hg,.inl ⟨rfl,h.1,h.2.1,h.2.2.1⟩⟩
theorem word_ok {w:List Int}(h:w=wEnum∨w=wList∨w=wStruct∨w=wRoot):w≠[]∧isLet (w.getD 0 0)=true∧∀ c ∈ w,(isLet c||isDig c)=true:=by
 rcases h with rfl|rfl|rfl|rfl<;>exact ⟨by decide,rfl,by decide⟩
theorem wd_ok {w g:List Int}(h:w=wEnum∨w=wList∨w=wStruct∨w=wRoot)(hg:blanks g):PcOk okU (amg idlSigns) (wdP w g):=⟨hg,.inl ⟨rfl,word_ok h⟩⟩
theorem sg_ok {c:Int}{g:List Int}(h:c=123∨c=125∨c=58∨c=59∨c=61∨c=44∨c=60∨c=62)(hg:blanks g):PcOk okU (amg idlSigns) (sgP c g):=⟨hg,.inr (.inr (.inr ⟨rfl,c,rfl,by
 rcases h with rfl|rfl|rfl|rfl|rfl|rfl|rfl|rfl<;>exact ⟨by decide,by decide,by decide,by decide,by decide,by decide,by decide⟩⟩))⟩
theorem ty_ok {B:ByteArray}(h:NameOk B):∀ (n:Nat) (g:List Int),blanks g→∀ q ∈ tyPcs B n g,PcOk okU (amg idlSigns) q
 | 0,g,hg,q,hq=>by
  rw [tyPcs,List.mem_singleton] at hq
  subst hq
  exact nm_ok h hg
 | n+1,g,hg,q,hq=>by
  rw [tyPcs] at hq
  rcases List.mem_cons.1 hq with rfl|hq
  · exact wd_ok (by simp) blank_nil
  rcases List.mem_cons.1 hq with rfl|hq
  · exact sg_ok (by simp) blank_nil
  rcases List.mem_append.1 hq with hq|hq
  · exact ty_ok h n [] blank_nil q hq
  · rw [List.mem_singleton.1 hq]
    exact sg_ok (by simp) hg
theorem ty_gl (B:ByteArray):∀ (n:Nat) (g:List Int) (l:List Pc),(g≠[]∨∃ p r,l=p::r∧p.k=4)→glued l→glued (tyPcs B n g++l)
 | 0,g,l,h,hl=>⟨.inr (.inr h),hl⟩
 | n+1,g,l,h,hl=>by
  show glued (wdP wList []::sgP 60 []::((tyPcs B n []++[sgP 62 g])++l))
  refine ⟨.inr (.inr (.inr ⟨_,_,rfl,rfl⟩)),.inr (.inl rfl),?_⟩
  rw [List.append_assoc]
  exact ty_gl B n [] _ (.inr ⟨_,_,rfl,rfl⟩) ⟨.inr (.inl rfl),hl⟩
theorem field_ok {S:Sch}{f:SFld}(h:FieldOk S f):(∀ q ∈ fieldPcs S f,PcOk okU (amg idlSigns) q)∧Gl (fieldPcs S f):=by
 constructor
 · intro q hq
   unfold fieldPcs tailPcs at hq
   rcases List.mem_cons.1 hq with rfl|hq
   · exact ⟨blank_nil,.inr (.inr (.inl ⟨rfl,h.lab.2.1,h.lab.2.2.1⟩))⟩
   rcases List.mem_cons.1 hq with rfl|hq
   · exact sg_ok (by simp) blank_32
   split at hq
   · rename_i hd
     rcases List.mem_append.1 hq with hq|hq
     · exact ty_ok h.base.1 _ _ blank_32 q hq
     · simp only [List.mem_cons,List.not_mem_nil,or_false] at hq
       rcases hq with rfl|rfl|rfl
       · exact sg_ok (by simp) blank_32
       · exact h.dflt hd
       · exact sg_ok (by simp) blank_10
   · rcases List.mem_append.1 hq with hq|hq
     · exact ty_ok h.base.1 _ _ blank_nil q hq
     · rw [List.mem_singleton.1 hq]
       exact sg_ok (by simp) blank_10
 · intro r hr
   unfold fieldPcs tailPcs
   refine ⟨.inl rfl,.inr (.inl rfl),?_⟩
   split
   · change glued ((tyPcs (baseOf S f) f.lists [32]++[sgP 61 [32],defPc S.enums f,sgP 59 [10]])++r)
     rw [List.append_assoc]
     exact ty_gl _ _ _ _ (.inl (by simp)) ⟨.inr (.inl rfl),.inr (.inr (.inr ⟨_,_,rfl,rfl⟩)),.inr (.inl rfl),hr⟩
   · change glued ((tyPcs (baseOf S f) f.lists []++[sgP 59 [10]])++r)
     rw [List.append_assoc]
     exact ty_gl _ _ _ _ (.inr ⟨_,_,rfl,rfl⟩) ⟨.inr (.inl rfl),hr⟩
theorem rec_ok {S:Sch}{r:SRec}(h:NameOk r.name∧∀ f ∈ r.fields,FieldOk S f):(∀ q ∈ recPcs S r,PcOk okU (amg idlSigns) q)∧Gl (recPcs S r):=by
 constructor
 · intro q hq
   unfold recPcs at hq
   rcases List.mem_cons.1 hq with rfl|hq
   · exact wd_ok (by simp) blank_32
   rcases List.mem_cons.1 hq with rfl|hq
   · exact nm_ok h.1 blank_32
   rcases List.mem_cons.1 hq with rfl|hq
   · exact sg_ok (by simp) blank_10
   rcases List.mem_append.1 hq with hq|hq
   · obtain ⟨f,hf,hq⟩:=List.mem_flatMap.1 hq
     exact (field_ok (h.2 f hf)).1 q hq
   · rw [List.mem_singleton.1 hq]
     exact sg_ok (by simp) blank_10
 · exact Gl.cons (.inr (.inr (by simp [wdP]))) (Gl.cons (.inr (.inr (by simp [nmP]))) (Gl.cons (.inr (.inl rfl)) ((gl_flat _ _ fun f hf=>(field_ok (h.2 f hf)).2).append (Gl.cons (.inr (.inl rfl)) gl_nil))))
theorem enum_ok {c:SCho}(h:NameOk c.name∧∀ n ∈ c.names,NameOk n):(∀ q ∈ enumPcs c,PcOk okU (amg idlSigns) q)∧Gl (enumPcs c):=by
 constructor
 · intro q hq
   unfold enumPcs at hq
   rcases List.mem_cons.1 hq with rfl|hq
   · exact wd_ok (by simp) blank_32
   rcases List.mem_cons.1 hq with rfl|hq
   · exact nm_ok h.1 blank_32
   rcases List.mem_cons.1 hq with rfl|hq
   · exact sg_ok (by simp) blank_nil
   rcases List.mem_append.1 hq with hq|hq
   · obtain ⟨n,hn,hq⟩:=List.mem_flatMap.1 hq
     simp only [List.mem_cons,List.not_mem_nil,or_false] at hq
     rcases hq with rfl|rfl
     · exact nm_ok (h.2 n hn) blank_nil
     · exact sg_ok (by simp) blank_nil
   · rw [List.mem_singleton.1 hq]
     exact sg_ok (by simp) blank_10
 · exact Gl.cons (.inr (.inr (by simp [wdP]))) (Gl.cons (.inr (.inr (by simp [nmP]))) (Gl.cons (.inr (.inl rfl)) ((gl_flat _ _ fun n _=>Gl.cons2 rfl (Gl.cons (.inr (.inl rfl)) gl_nil)).append (Gl.cons (.inr (.inl rfl)) gl_nil))))
theorem text_ok {S:Sch}(h:TextOk S):(∀ q ∈ pcsS S,PcOk okU (amg idlSigns) q)∧glued (pcsS S):=by
 constructor
 · intro q hq
   unfold pcsS at hq
   rcases List.mem_append.1 hq with hq|hq
   · obtain ⟨c,hc,hq⟩:=List.mem_flatMap.1 hq
     exact (enum_ok (h.cn c hc)).1 q hq
   rcases List.mem_append.1 hq with hq|hq
   · obtain ⟨r,hr,hq⟩:=List.mem_flatMap.1 hq
     exact (rec_ok (h.rn r hr)).1 q hq
   · simp only [List.mem_cons,List.not_mem_nil,or_false] at hq
     rcases hq with rfl|rfl|rfl
     · exact wd_ok (by simp) blank_32
     · exact nm_ok h.rt blank_nil
     · exact sg_ok (by simp) blank_10
 · exact ((gl_flat _ _ fun c hc=>(enum_ok (h.cn c hc)).2).append ((gl_flat _ _ fun r hr=>(rec_ok (h.rn r hr)).2).append (Gl.cons (.inr (.inr (by simp [wdP]))) (Gl.cons2 rfl (Gl.cons (.inr (.inl rfl)) gl_nil))))).glued
end Go.Proofs.YtokhnoogkdlidaaGreatDoor
namespace Go.Proofs.YtokhnoogkdlidaaGreatDoor
open Go.ChangeShapes Go.WideShapes Go.ChangeAt Go.RowKit Go.Shelf
theorem isNum_kinds {kd ls:Nat}(h:isNumP kd ls=true):1≤kd∧kd≤10:=by
 unfold isNumP at h
 have h2:=(Bool.and_eq_true_iff.1 h).2
 have h3:0<kSize kd:=of_decide_eq_true h2
 rcases Nat.lt_or_ge kd 1 with h4|h4
 · rw [kSize_else _ (.inl (by omega))] at h3
   omega
 · rcases Nat.lt_or_ge 10 kd with h5|h5
   · rw [kSize_else _ (.inr (by omega))] at h3
     omega
   · exact ⟨h4,h5⟩
theorem kind_enum {p:Plan}{f:PF}{i:Nat}(h:kindP p i f=10):p.enums.length≠0∧refP p i f=f.ref % p.enums.length:=by
 by_cases h10:f.kind % 13+1=10
 · by_cases h0:p.enums.length=0
   · have:=(kp_a (i:=i) h10 h0).1
     omega
   · exact ⟨h0,(kp_b h10 h0).2⟩
 · by_cases h13:f.kind % 13+1=13
   · cases ht:p.tree with
     | true =>
      by_cases hl:i+1=p.structs.length
      · have:=(kp_c h13 ht hl).1
        omega
      · have:=(kp_d h13 ht hl).1
        omega
     | false =>
      have:=(kp_e (i:=i) h13 ht).1
      omega
   · have:=(kp_f (p:=p) (i:=i) h10 h13).1
     omega
theorem kindP_le (p:Plan)(i:Nat)(f:PF):1≤kindP p i f∧kindP p i f≤13:=by
 have h:=Nat.mod_lt f.kind (show 0<13 by decide)
 unfold kindP
 split
 · omega
 · unfold kind0
   split<;>omega
theorem enum_at {p:Plan}{n0:Nat}{es:List (SCho × Value)}(hes:es.map Prod.fst=chosP p n0){k:Nat}(hk:k<n0):∃ h:k<es.length,es[k].1=choP p k:=by
 have hl:es.length=n0:=by have:=congrArg List.length hes;rw [chosP_length] at this;simpa using this
 refine ⟨by omega,?_⟩
 have h1:(es.map Prod.fst)[k]?=(chosP p n0)[k]?:=by rw [hes]
 rw [List.getElem?_map,List.getElem?_eq_getElem (by omega)] at h1
 unfold chosP at h1
 rw [List.getElem?_map,List.getElem?_range hk] at h1
 exact Option.some.inj h1
theorem nums_of {p:Plan}{f:PF}{i n0 base ls rt:Nat}{W:World}{ss:List (SRec × Value)}{es:List (SCho × Value)}{sv ev:Value}(hs:SchRows base W ss es sv ev)(hes:es.map Prod.fst=chosP p n0)(hel:p.enums.length=n0)(hd:(f.dflt:Int)≤18446744073709551615)(h:isNumP (kindP p i f) ls=true) :
  NumsAre p (kindP p i f) (refP p i f) ls f.dflt sv ev rt W:=by
 obtain ⟨h1,h10⟩:=isNum_kinds h
 by_cases hk:kindP p i f=10
 · obtain ⟨h0,hr⟩:=kind_enum hk
   rw [hel] at h0 hr
   obtain ⟨hlt,he⟩:=enum_at hes (show refP p i f<n0 by rw [hr];exact Nat.mod_lt _ (by omega))
   have hc:es[refP p i f].1.names.length=cntOf p (refP p i f):=by rw [he];simp [choP]
   intro W' hb
   rw [hk,←hc]
   exact numberE_any (refP p i f) ls f.dflt rt W' (hs.below hb) hlt (by rw [hc];unfold cntOf;omega) hd
 · intro W' _
   exact hnumber_any (kindP p i f) (refP p i f) ls f.dflt (cntOf p (refP p i f)) sv ev rt W' hd h1 (by omega)
def FldsInv (w0:World)(p:Plan)(l:List PF)(b i n c0 R:Nat)(a:Option Addr)(rn:Value)(c':Act)(w':World):Prop:=
 ∃ (k:Nat) (fv:Value),k≤n∧FrD b i a n c0 R k c'∧Below R w0 w'∧w'.heap[R]?=some (.cells #[rn,fv] 52 (0,0))∧w'.ownsRow (R+1) 49 5 fv k (sfldsCells (fldsP p i l k))
set_option maxRecDepth 100000 in
set_option maxHeartbeats 4000000 in
theorem flds_wp {Q:Exit→Act→World→Prop}{c:Act}{w wS w0:World}{p:Plan}{a a0 a1:Option Addr}{b i n c0 n0 e0 n1 c1 R rt:Nat}{rn sv ev:Value}{ss:List (SRec × Value)}{es:List (SCho × Value)}{l:List PF}
  (hF:∀ k,k<n→∃ B off,PFAt w a k (l.getD k noPF) B off) (hn:n≤16) (hkp:MKeeps w b (.slice a0 n0 e0) (.slice a1 n1 c1) p.root p.tree wS) (hs:SchAt (b+2) wS ss es sv ev rt) (hes:es.map Prod.fst=chosP p n0) (hel:p.enums.length=n0) (hsl:p.structs.length=n1)
  (hi:i<n1) (h16:n1≤16) (h8:n0≤8) (hbS:Below wS.heap.size wS w0) (hSR:wS.heap.size≤R) (hR:w0.heap[R]?=some (.cells #[rn,.slice none 0 0] 52 (0,0))) (hc:FrD b i a n c0 R 0 c)
  (hQ:∀ c' w' fv,FrD b i a n c0 R n c'→Below R w0 w'→w'.heap[R]?=some (.cells #[rn,fv] 52 (0,0))→w'.ownsRow (R+1) 49 5 fv n (sfldsCells (fldsP p i l n))→Q (.exit 6) c' w') :
  Code.wp Tryz.prog (Code.loop (madeLoop 3)) Q c w0:=by
 refine wp_loop (FldsInv w0 p l b i n c0 R a rn)
  (fun c' _=>n-(intOf (c'.tmps.getD 11 undef)).toNat) ⟨0,_,Nat.zero_le _,hc,Below.refl _ _,hR,World.ownsRow_nil _ _ _ _⟩ ?_
 clear hc hR
 rintro c wr ⟨k,fv,hk,hc,hb,hR,hrow⟩
 have hbb:Below wS.heap.size wS wr:=hbS.trans (hb.mono hSR)
 have HSA:=Lib.hid (hs.below hbb)
 have HKP:=Lib.hid (hkp.below hbb (Nat.le_of_lt (blk_lt hs.blk)))
 have HQ:=Lib.hid hQ
 have HB:=Lib.hid hb
 have HR:=Lib.hid hR
 have HROW:=Lib.hid hrow
 have HES:=Lib.hid hes
 have HEL:=Lib.hid hel
 have HSL:=Lib.hid hsl
 have hbR:b+2<R:=Nat.lt_of_lt_of_le (blk_lt hs.blk) hSR
 have hRw:R<wr.heap.size:=blk_lt hR
 have hbeq:=hkp.hb
 obtain ⟨u,rfl⟩:=frd_lit hc
 by_cases hkl:k<n
 · obtain ⟨B,off,hpf⟩:=hF k hkl
   have HFX:=Lib.hid (rfl:l.getD k noPF=l.getD k noPF)
   have HSN:=Lib.hid (fldsP_succ p i l k)
   generalize l.getD k noPF=f at *
   have HPF:=Lib.hid hpf
   obtain ⟨rfl,hB,x0,x1,x2,x3,x4,l0,l1,l2,l3,l4⟩:=hpf
   have y0:=(HKP.out.bel.cell (p:=⟨B,off+k * 5,none⟩) (by show B<b;omega)).trans x0
   have y1:=(HKP.out.bel.cell (p:=⟨B,off+k * 5+1,none⟩) (by show B<b;omega)).trans x1
   have hBb:B<b:=by omega
   have HBEQ:=Lib.hid hbeq
   clear hc hQ hb hR hrow hes hel hsl hbb hs hkp hF x0 x1 x2 x3 x4 l2 l3 hbS hB hbeq
   have m0:(f.kind:Int).tmod 13=((f.kind % 13:Nat):Int):=by rw [Int.tmod_eq_emod_of_nonneg (by omega)];omega
   have m1:(f.lists:Int).tmod 4=((f.lists % 4:Nat):Int):=by rw [Int.tmod_eq_emod_of_nonneg (by omega)];omega
   have hk13:f.kind % 13<13:=by omega
   have hl4:f.lists % 4<4:=by omega
   obtain ⟨kq,hkq⟩:∃ kq,f.kind % 13=kq:=⟨_,rfl⟩
   obtain ⟨lq,hlq⟩:∃ lq,f.lists % 4=lq:=⟨_,rfl⟩
   rw [hkq] at m0 hk13
   rw [hlq] at m1 hl4
   have HKQ:=Lib.hid hkq
   have HLQ:=Lib.hid hlq
   clear hkq hlq
   have v0:=u8_in (kq:Int) (by omega) (by omega)
   have v1:=u8_in ((kq:Int)+1) (by omega) (by omega)
   have v2:=u8_in (lq:Int) (by omega) (by omega)
   have v3:=IntWalk.i64_in (lq:Int) (by omega)
   have hki:(k:Int)<n:=by omega
   conv=>arg 2;whnf
   go_upto_region 23 with (fail)
   go_region_held3 (fun w'=>w'.cell? ⟨B,off+k * 5,none⟩=some (.int .u8 (f.kind:Nat))∧w'.cell? ⟨B,off+k * 5+1,none⟩=some (.int .u8 (f.lists:Nat))) (first|assumption|go_keep) (first|fail)
   all_goals
    simp only [Exit.then]
    apply_assumption
    have hbt:Below wr.heap.size wr (wr.alloc (.cells #[.int .u8 ((kq:Int)+1),.int .i64 0,.int .i64 lq] 46)).drew:=((Below.refl _ _).alloc (Nat.le_refl _) _).drew
    have hty:MTyAt (wr.alloc (.cells #[.int .u8 ((kq:Int)+1),.int .i64 0,.int .i64 lq] 46)).drew wr.heap.size (f.kind % 13+1) 0 (f.lists % 4):=by
     rw [HKQ.out,HLQ.out]
     exact heap_alloc_new wr _
    generalize (wr.alloc (.cells #[.int .u8 ((kq:Int)+1),.int .i64 0,.int .i64 lq] 46)).drew=W1 at *
    have hs1:=HSA.out.below hbt
    have hk1:=HKP.out.below hbt (by omega)
    obtain ⟨eva,evc,hevf⟩:=ownsRow_form hs1.rows.enums
    have hesl:es.length=n0:=by have:=congrArg List.length HES.out;rw [chosP_length] at this;simpa using this
    rw [hesl] at hevf
    subst hevf
    refine kinds_wp (a0:=a0) (c1:=c1) ⟨rfl,rfl,rfl,rfl,rfl,rfl,rfl,rfl,rfl,rfl,rfl⟩ ⟨HPF.out,by rw [←HBEQ.out];exact hk1.bel,HBEQ.out,by omega,(blk_cell hs1.blk 1).trans rfl,(blk_cell hk1.box 1).trans rfl,(blk_cell hk1.box 3).trans rfl,HEL.out,HSL.out,hi,h16,h8,hkl,hn⟩ hty ?_
    intro c2 W2 G hf2 hTG hbel hty2 hfl
    have hT:wr.heap.size<W1.heap.size:=blk_lt hty
    have HS1:=Lib.hid hs1
    have hs2:SchAt (b+2) W2 ss es sv (.slice eva n0 evc) rt:=HSA.out.below (hbt.trans hbel)
    have hb2:Below wr.heap.size wr W2:=hbt.trans hbel
    have hR2:=blk_below HR.out hb2 (by omega)
    have hrow2:=row_keep hb2 HROW.out
    refine dflt_wp (w:=w) (p:=p) (fv:=fv) (rn:=rn) (xs:=sfldsCells (fldsP p i l k)) hf2 HPF.out (by rw [←HBEQ.out];exact (HKP.out.below hb2 (by omega)).bel) hkl hn hty2 (by have:=(kindP_le p i f).2;omega) hfl hTG hRw hbR (by omega) hs2.blk (fun h=>nums_of hs2.rows HES.out HEL.out l4 h) hR2 hrow2 (fun g hg=>(ownsRow_lt HROW.out g hg).2) ?_
    intro c3 W4 fv' h1 h2 h3 h4
    have HF1:=Lib.hid h1
    have HB4:=Lib.hid ((HB.out.trans (hb2.mono (Nat.le_of_lt hRw))).trans h2)
    have HR4:=Lib.hid h3
    have HROW4:=Lib.hid h4
    obtain ⟨u3,rfl⟩:=frd_lit h1
    clear h1 h2 h3 h4 hR2 hrow2 hs2 hb2 hf2 hbel hty2 hfl hs1 hk1 hbt hty
    simp only [Exit.inBlock,Exit.then]
    apply_assumption
    go_wp2
    refine ⟨⟨k+1,fv',by omega,⟨rfl,rfl,rfl,rfl,rfl,rfl,rfl,rfl,rfl,rfl⟩,HB4.out,HR4.out,?_⟩,?_⟩
    · rw [HSN.out,sfldsCells_snoc]
      exact HROW4.out
    · show n-(intOf (.int .i64 ((k:Int)+1))).toNat<n-(intOf (.int .i64 (k:Int))).toNat
      simp [intOf];omega
 · obtain rfl:k=n:=by omega
   clear hc hQ hb hR hrow hes hel hsl hbb hs hkp hF hbS hbeq
   conv=>arg 2;whnf
   go_wp2
   exact HQ.out _ _ _ ⟨rfl,rfl,rfl,rfl,rfl,rfl,rfl,rfl,rfl,rfl⟩ HB.out HR.out HROW.out
end Go.Proofs.YtokhnoogkdlidaaGreatDoor
namespace Go.Proofs.YtokhnoogkdlidaaGreatDoor
open Go.ChangeShapes Go.WideShapes Go.ChangeAt Go.RowKit Go.Shelf
theorem amg_yes {s:ByteArray}{k:Nat}{c:Int}(h:k<s.size)(hc:(s[k].toNat:Int)=c):amg s c=true:=by
 refine decide_eq_true ?_
 rw [←hc,←bts_get h,List.getD,List.getElem?_eq_getElem (by rw [bts_length];exact h)]
 exact List.getElem_mem _
theorem amg_no {s:ByteArray}{c:Int}(h:∀ j (hj:j<s.size),(s[j].toNat:Int)≠c):amg s c=false:=by
 refine decide_eq_false (fun hm=>?_)
 obtain ⟨j,hj,hv⟩:=List.mem_iff_getElem.1 hm
 have hj':j<s.size:=by rw [bts_length] at hj;exact hj
 refine h j hj' ?_
 rw [←bts_get hj',List.getD,List.getElem?_eq_getElem hj]
 exact hv
theorem has_any (s:ByteArray)(c:Int)(w:World)(hs:s.size≤9223372036854775807) :
  Calls Tryz.prog 87 #[.string s,.int .u8 c] w fun e w'=>e=.returned (.bool (amg s c))∧w=w':=by
 obtain ⟨r,hr⟩:∃ r,amg s c=r:=⟨_,rfl⟩
 have HR:=Lib.hid hr
 rw [hr]
 clear hr
 go_enter Tryz.func87,Tryz.ntmps87
 go_wp2
 go_loop [5] (fun i=>∃ k:Nat,k≤s.size∧i=.int .i64 k∧∀ j (hj:j<s.size),j<k→(s[j].toNat:Int)≠c) (fun i=>s.size-(intOf i).toNat)
 case atStart=>exact ⟨0,Nat.zero_le _,rfl,fun j _ h=>absurd h (Nat.not_lt_zero _)⟩
 case round =>
  obtain ⟨k,hk,rfl,hj⟩:=hrel
  have HJ:=Lib.hid hj
  clear hj
  by_cases hlt:k<s.size
  · by_cases he:(s[k].toNat:Int)=c
    · have HA:=Lib.hid (amg_yes hlt he)
      have t:((s[k].toNat:Int)==c)=true:=beq_iff_eq.2 he
      clear he
      go_wp2
      go_ret
      exact ⟨ret_bool (HA.out.symm.trans HR.out),rfl⟩
    · have t:((s[k].toNat:Int)==c)=false:=beq_eq_false_iff_ne.2 he
      have HN:=Lib.hid he
      clear he
      go_wp2
      go_round
      case rel =>
       refine ⟨k+1,by omega,by go_num,fun j hj h=>?_⟩
       rcases Nat.lt_or_ge j k with h'|h'
       · exact HJ.out j hj h'
       · obtain rfl:j=k:=by omega
         exact HN.out
      case measure=>simp [intOf];omega
  · have HA:=Lib.hid (amg_no (s:=s) (c:=c) fun j hj=>HJ.out j hj (by omega))
    go_wp2
    go_ret
    exact ⟨ret_bool (HA.out.symm.trans HR.out),rfl⟩
theorem rtext_any (a:Option Addr)(cap n:Nat)(zs:List Int)(w:World)(hT:Tabs w)(hz:Bytes w a zs)(hn:zs.length=n)(hl:(n:Int)≤9223372036854775800)(hcap:n≤cap) :
  Calls Tryz.prog 86 #[.slice a n cap] w fun e w'=>e=.returned (.bool (okU zs))∧Below w.heap.size w w':=by
 have HU:=Lib.hid (rutf8_call a cap n zs w hT hz hn hl hcap)
 clear hT hz hn hl hcap
 go_enter Tryz.func86,Tryz.ntmps86
 go_wp2_with fail
 refine HU.out.mono ?_
 rintro e W1 ⟨rfl,hb⟩
 go_wp2
 go_ret
 exact ⟨rfl,hb⟩
end Go.Proofs.YtokhnoogkdlidaaGreatDoor
