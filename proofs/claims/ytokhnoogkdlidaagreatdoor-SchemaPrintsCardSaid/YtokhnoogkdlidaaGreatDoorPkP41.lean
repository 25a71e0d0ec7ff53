/-
  The document's Make: an enum's values looked at two by two. Conditions: those that each theorem names.
-/
import Derived.Test.YtokhnoogkdlidaaGreatDoorPkP8
import Derived.Test.YtokhnoogkdlidaaGreatDoorPkP25
import Derived.Test.YtokhnoogkdlidaaGreatDoorPkP35
import Derived.Test.YtokhnoogkdlidaaGreatDoorPkP40
namespace Go.Proofs.YtokhnoogkdlidaaGreatDoor
open Go.ChangeShapes Go.WideShapes Go.ChangeAt Go.RowKit Go.Shelf
theorem kind_num {k:Nat}(h13:k≤13)(h:0<kSize k):1≤k∧k≤10:=by
 have hk:k=0∨k=1∨k=2∨k=3∨k=4∨k=5∨k=6∨k=7∨k=8∨k=9∨k=10∨k=11∨k=12∨k=13:=by omega
 rcases hk with rfl|rfl|rfl|rfl|rfl|rfl|rfl|rfl|rfl|rfl|rfl|rfl|rfl|rfl<;>first|omega|exact absurd h (by decide)
theorem kind_size {k:Nat}(h1:1≤k)(h2:k≤10):0<kSize k:=by
 have hk:k=1∨k=2∨k=3∨k=4∨k=5∨k=6∨k=7∨k=8∨k=9∨k=10:=by omega
 rcases hk with rfl|rfl|rfl|rfl|rfl|rfl|rfl|rfl|rfl|rfl<;>decide
structure PrFldAt (p:Plan)(f:SFld)(i k:Nat)(q:PF):Prop where
 hi:i<p.structs.length
 hk:k<16
 is:f=fldP p i k q
 hd:(q.dflt:Int)≤18446744073709551615
theorem flds_at {p:Plan}(hok:planOk p)(hn:PlanNums p){r:SRec}(hr:r ∈ (schP p).structs):∃ i,i<p.structs.length∧r=recP p i∧∀ f ∈ r.fields,∃ k q,PrFldAt p f i k q:=by
 obtain ⟨i,hi,rfl⟩:=List.mem_map.1 (show r ∈ (List.range p.structs.length).map (recP p) from hr)
 have hi':=List.mem_range.1 hi
 refine ⟨i,hi',rfl,fun f hf=>?_⟩
 obtain ⟨k,hk,rfl⟩:=List.mem_map.1 (show f ∈ (List.range _).map _ from hf)
 have hk':=List.mem_range.1 hk
 have h16:=(hok.2.2.2 _ (getD_mem [] hi')).2
 exact ⟨k,_,hi',by omega,rfl,hn i hi' k hk'⟩
theorem penum_at {p:Plan}{e:Nat}(he:e<p.enums.length)(d:SCho):(schP p).enums.getD e d=choP p e:=by
 show ((List.range p.enums.length).map (choP p)).getD e d=_
 rw [List.getD,List.getElem?_map,List.getElem?_range he]
 rfl
theorem rec_at {p:Plan}{e:Nat}(he:e<p.structs.length)(d:SRec):(schP p).structs.getD e d=recP p e:=by
 show ((List.range p.structs.length).map (recP p)).getD e d=_
 rw [List.getD,List.getElem?_map,List.getElem?_range he]
 rfl
theorem enums_len (p:Plan):(schP p).enums.length=p.enums.length:=chosP_length _ _
theorem structs_len (p:Plan):(schP p).structs.length=p.structs.length:=recsP_length _ _
theorem cnt_le (p:Plan)(e:Nat):1≤cntOf p e∧cntOf p e≤32:=by
 unfold cntOf
 have:=Nat.mod_lt (p.enums.getD e 0) (show 0<32 by decide)
 omega
theorem names_at (p:Plan)(e d:Nat)(hd:d<cntOf p e)(x:ByteArray):(choP p e).names.getD d x=valName d:=by
 show ((List.range (cntOf p e)).map valName).getD d x=_
 rw [List.getD,List.getElem?_map,List.getElem?_range hd]
 rfl
theorem ref_at {p:Plan}{f:SFld}{i k:Nat}{q:PF}(h:PrFldAt p f i k q):(1≤f.kind∧f.kind≤13)∧(f.kind=10→f.ref<p.enums.length)∧(f.kind=13→f.ref<p.structs.length)∧(f.kind≠10→f.kind≠13→f.ref=0):=by
 obtain ⟨hi,hk,rfl,hd⟩:=h
 refine ⟨kindP_le p i q,fun h=>?_,fun h=>refP_struct hi h,fun h10 h13=>?_⟩
 · obtain ⟨h0,hr⟩:=kind_enum (show kindP p i q=10 from h)
   show refP p i q<_
   rw [hr]
   exact Nat.mod_lt _ (by omega)
 · show refP p i q=0
   have a10:kindP p i q≠10:=h10
   have a13:kindP p i q≠13:=h13
   by_cases hA:q.kind % 13+1=10
   · by_cases h0:p.enums.length=0
     · exact (kp_a (i:=i) hA h0).2
     · exact absurd (kp_b (i:=i) hA h0).1 a10
   · by_cases hB:q.kind % 13+1=13
     · cases ht:p.tree with
       | false=>exact absurd (kp_e hB ht).1 a13
       | true =>
        by_cases hl:i+1=p.structs.length
        · exact (kp_c hB ht hl).2
        · exact absurd (kp_d hB ht hl).1 a13
     · exact (kp_f hA hB).2
theorem dflt_at {p:Plan}{f:SFld}{i k:Nat}{q:PF}(h:PrFldAt p f i k q):f.lists≤3∧(f.dflt:Int)≤18446744073709551615∧(f.dflt≠0→f.lists=0∧f.kind≤10)∧(f.lists=0→f.kind≤10→fitsT (schP p).enums f.kind f.ref 0 f.dflt=true):=by
 have href:=ref_at h
 obtain ⟨hi,hk,rfl,hd⟩:=h
 have hkl:=kindP_le p i q
 refine ⟨by show q.lists % 4≤3;omega,?_,fun hne=>?_,fun h0 h10=>?_⟩
 · show ((if _ then numP _ _ _ else 0:Nat):Int)≤_
   split
   · exact numP_max _ _ _ hd
   · decide
 · have hne':(if isNumP (kindP p i q) (q.lists % 4)=true then numP (cntOf p (refP p i q)) (kindP p i q) q.dflt else 0)≠0:=hne
   split at hne'
   · rename_i hin
     unfold isNumP at hin
     rw [Bool.and_eq_true] at hin
     exact ⟨of_decide_eq_true hin.1,(kind_num hkl.2 (of_decide_eq_true hin.2)).2⟩
   · exact absurd rfl hne'
 · have h0':q.lists % 4=0:=h0
   have h10':kindP p i q≤10:=h10
   have hin:isNumP (kindP p i q) (q.lists % 4)=true:=by
    unfold isNumP
    rw [h0',decide_eq_true (kind_size hkl.1 h10')]
    rfl
   have hen:kindP p i q=10→refP p i q<(schP p).enums.length∧cntE (schP p).enums (refP p i q)=cntOf p (refP p i q):=fun h=>by
    have hlt:refP p i q<p.enums.length:=href.2.1 h
    refine ⟨by rw [enums_len];exact hlt,?_⟩
    unfold cntE
    rw [penum_at hlt]
    simp [choP]
   show fitsT (schP p).enums (kindP p i q) (refP p i q) 0 (if isNumP (kindP p i q) (q.lists % 4)=true then numP (cntOf p (refP p i q)) (kindP p i q) q.dflt else 0)=true
   rw [if_pos hin]
   have hnt:NumTy (schP p).enums (kindP p i q) (refP p i q):=⟨hkl.1,h10',fun h=>⟨(hen h).1,by rw [(hen h).2];exact (cnt_le _ _).1⟩⟩
   have hf:=num_fits hnt (n:=q.dflt) (by omega)
   by_cases hk10:kindP p i q=10
   · rwa [(hen hk10).2] at hf
   · have he:numP (cntOf p (refP p i q)) (kindP p i q) q.dflt=numP (cntE (schP p).enums (refP p i q)) (kindP p i q) q.dflt:=by
      unfold numP
      rw [if_neg hk10,if_neg hk10]
     rw [he]
     exact hf
theorem base_at {p:Plan}(hok:planOk p){f:SFld}{i k:Nat}{q:PF}(h:PrFldAt p f i k q):NameOk (baseOf (schP p) f)∧bts (baseOf (schP p) f)≠wList∧(f.kind≠10→f.kind≠13→baseOf (schP p) f=tyName f.kind):=by
 obtain ⟨⟨h1,h13⟩,h10,hst,_⟩:=ref_at h
 unfold baseOf tyBaseS
 by_cases k10:f.kind=10
 · have hlt:f.ref<26:=by have:=h10 k10;have:=hok.2.2.1;omega
   rw [if_pos k10,penum_at (h10 k10)]
   refine ⟨enum_name_ok hlt,fun e=>?_,fun h=>absurd k10 h⟩
   rw [show bts (choP p f.ref).name=_ from bts_enum_name hlt] at e
   injection e with e _
   exact absurd e (by decide)
 rw [if_neg k10]
 by_cases k13:f.kind=13
 · have hlt:f.ref<26:=by have:=hst k13;have:=hok.2.1;omega
   rw [if_pos k13,rec_at (hst k13)]
   refine ⟨rec_name_ok hlt,fun e=>?_,fun _ h=>absurd k13 h⟩
   rw [show bts (recP p f.ref).name=_ from bts_rec_name hlt] at e
   injection e with e _
   exact absurd e (by decide)
 rw [if_neg k13]
 have hk:f.kind=1∨f.kind=2∨f.kind=3∨f.kind=4∨f.kind=5∨f.kind=6∨f.kind=7∨f.kind=8∨f.kind=9∨f.kind=11∨f.kind=12:=by omega
 rcases hk with h|h|h|h|h|h|h|h|h|h|h<;>rw [h]<;>exact ⟨⟨by decide,by decide,by decide,by decide⟩,by decide,fun _ _=>rfl⟩
theorem def_at {p:Plan}{f:SFld}{i k:Nat}{q:PF}(h:PrFldAt p f i k q)(hne:f.dflt≠0):PcOk okU (amg idlSigns) (defPc (schP p).enums f)∧valueM ((schP p).enums.map rCho) f.kind f.ref f.lists (pTok (defPc (schP p).enums f))=some f.dflt:=by
 obtain ⟨⟨h1,h13⟩,h10,_,_⟩:=ref_at h
 obtain ⟨_,hmax,hd,hfit⟩:=dflt_at h
 obtain ⟨hl0,hk10⟩:=hd hne
 have hf:=hfit hl0 hk10
 have hnt:numTB f.kind 0=true:=by
  unfold numTB
  rw [decide_eq_true (kind_size h1 hk10)]
  rfl
 unfold fitsT at hf
 rw [if_neg (by rw [hnt];decide)] at hf
 rw [hl0]
 unfold defPc
 by_cases k1:f.kind=1
 · rw [if_pos k1] at hf ⊢
   have hle:=of_decide_eq_true hf
   have hd1:f.dflt=1:=by omega
   refine ⟨⟨blank_nil,.inl ⟨rfl,by decide,rfl,by decide⟩⟩,?_⟩
   rw [k1,hd1]
   kernel_rfl
 rw [if_neg k1] at hf ⊢
 by_cases k10:f.kind=10
 · rw [if_pos k10] at hf ⊢
   have hlt:=h10 k10
   rw [Bool.and_eq_true] at hf
   have hn:=of_decide_eq_true hf.2
   rw [Int.toNat_natCast,penum_at hlt] at hn
   have hn':f.dflt<cntOf p f.ref:=by
    have e:(choP p f.ref).names.length=cntOf p f.ref:=by simp [choP]
    rwa [e] at hn
   have h32:=(cnt_le p f.ref).2
   rw [penum_at hlt,names_at p _ _ hn']
   refine ⟨nm_ok (val_name_ok (by omega)) blank_nil,?_⟩
   have hch:chosenM ((schP p).enums.map rCho) f.ref=(List.range (cntOf p f.ref)).map valName:=by
    unfold chosenM
    have e:((schP p).enums.map rCho).getD f.ref ⟨[],0,[]⟩=rCho (choP p f.ref):=by
     rw [List.getD,List.getElem?_map,List.getElem?_eq_getElem (by rw [enums_len];exact hlt)]
     have:=penum_at hlt noCho
     rw [List.getD,List.getElem?_eq_getElem (by rw [enums_len];exact hlt),Option.getD_some] at this
     rw [Option.map_some,Option.getD_some,this]
    rw [e]
    show ((choP p f.ref).names.map nTok).map tokT=_
    rw [List.map_map]
    conv=>rhs;rw [←List.map_id ((List.range (cntOf p f.ref)).map valName)]
    exact List.map_congr_left fun n _=>tok_nm n
   have hidx:∀ (l:List ByteArray) (d:Nat) (hd:d<l.length),l.Nodup→idx l l[d]=some d:=by
    intro l
    induction l with
    | nil=>intro d hd;exact absurd hd (Nat.not_lt_zero _)
    | cons a l ih =>
     intro d hd hn
     cases d with
     | zero=>rw [idx];exact if_pos rfl
     | succ d =>
      rw [List.nodup_cons] at hn
      have hd':d<l.length:=by simpa using hd
      have hne:a≠l[d]:=fun e=>hn.1 (e▸List.getElem_mem hd')
      rw [idx]
      show (if a=l[d] then some 0 else (idx l l[d]).map (· + 1))=_
      rw [if_neg hne,ih d hd' hn.2]
      rfl
   have hx:=hidx ((List.range (cntOf p f.ref)).map valName) f.dflt (by rw [List.length_map,List.length_range];exact hn') (vals_nodup h32)
   have hget:((List.range (cntOf p f.ref)).map valName)[f.dflt]'(by rw [List.length_map,List.length_range];exact hn')=valName f.dflt:=by
    rw [List.getElem_map,List.getElem_range]
   rw [hget] at hx
   unfold valueM chooseM
   have e0:(pTok (nmP (valName f.dflt) [])).kind=1:=rfl
   have e1:tokT (pTok (nmP (valName f.dflt) []))=valName f.dflt:=tok_nm _
   rw [e0,e1,hch,if_neg (by decide),if_neg (fun h=>h rfl),if_neg k1,if_pos k10,if_pos rfl,hx]
 rw [if_neg k10] at hf ⊢
 have hmx:f.dflt≤maxU:=by unfold maxU;omega
 obtain ⟨n1,n2⟩:=num_says (k:=f.kind) (n:=f.dflt) (by omega) (by omega) hmx (fun hs=>by rw [if_pos hs] at hf;exact of_decide_eq_true hf) (fun hs=>by rw [if_neg (by rw [hs];decide)] at hf;exact of_decide_eq_true hf)
 refine ⟨⟨blank_nil,.inr (.inl ⟨rfl,n2⟩)⟩,?_⟩
 unfold valueM
 have e0:(pTok ⟨2,bts (decS (kSign f.kind) f.dflt),[]⟩).kind=2:=rfl
 have e1:tokT (pTok ⟨2,bts (decS (kSign f.kind) f.dflt),[]⟩)=decS (kSign f.kind) f.dflt:=strOf_bts _
 rw [e0,e1,if_neg (by decide),if_neg (fun h=>h rfl),if_neg k1,if_neg k10,if_pos rfl,n1]
theorem text_made {p:Plan}(hok:planOk p)(hn:PlanNums p):TextOk (schP p):=by
 have hrt:p.root % p.structs.length<p.structs.length:=Nat.mod_lt _ (by have:=hok.1;omega)
 refine ⟨fun c hc=>?_,fun r hr=>?_,?_⟩
 · obtain ⟨e,he,rfl⟩:=List.mem_map.1 (show c ∈ (List.range p.enums.length).map (choP p) from hc)
   have he':=List.mem_range.1 he
   refine ⟨enum_name_ok (by have:=hok.2.2.1;omega),fun n hn=>?_⟩
   obtain ⟨k,hk,rfl⟩:=List.mem_map.1 (show n ∈ (List.range (cntOf p e)).map valName from hn)
   exact val_name_ok (by have:=List.mem_range.1 hk;have:=(cnt_le p e).2;omega)
 · obtain ⟨i,hi,rfl,hfl⟩:=flds_at hok hn hr
   refine ⟨rec_name_ok (by have:=hok.2.1;omega),fun f hf=>?_⟩
   obtain ⟨k,q,hat⟩:=hfl f hf
   obtain ⟨b1,b2,_⟩:=base_at hok hat
   refine ⟨?_,⟨b1,b2⟩,(dflt_at hat).1,fun hne=>(def_at hat hne).1⟩
   rw [hat.is]
   exact label_ok _ _
 · show NameOk ((schP p).structs.getD (p.root % p.structs.length) noRec).name
   rw [rec_at hrt]
   exact rec_name_ok (by have:=hok.2.1;omega)
theorem labels_nodup (p:Plan)(i:Nat)(l:List PF){n:Nat}(hn:n≤16):((fldsP p i l n).map SFld.name).Nodup:=by
 have e:(fldsP p i l n).map SFld.name=(List.range n).map fun k=>labelOf (l.getD k noPF).name k:=by
  unfold fldsP
  rw [List.map_map]
  rfl
 rw [e]
 refine List.pairwise_map.2 (List.Pairwise.imp_of_mem (fun ha hb hne he=>hne (label_inj (by have:=List.mem_range.1 ha;omega) (by have:=List.mem_range.1 hb;omega) he)) List.nodup_range)
theorem means_made {p:Plan}(hok:planOk p)(hn:PlanNums p):MeansOk (schP p):=by
 have hrt:p.root % p.structs.length<p.structs.length:=Nat.mod_lt _ (by have:=hok.1;omega)
 refine ⟨by rw [enums_len];exact hok.2.2.1,by rw [structs_len];exact hok.2.1,fun c hc=>?_,fun r hr=>?_,?_,fun r hr f hf=>?_,fun r hr f hf=>?_,by rw [structs_len];exact hrt⟩
 · obtain ⟨e,he,rfl⟩:=List.mem_map.1 (show c ∈ (List.range p.enums.length).map (choP p) from hc)
   have hl:(choP p e).names.length=cntOf p e:=by simp [choP]
   have h32:=cnt_le p e
   exact ⟨by rw [hl];exact h32.1,by rw [hl];exact h32.2,vals_nodup h32.2⟩
 · obtain ⟨i,hi,rfl,_⟩:=flds_at hok hn hr
   have h16:=hok.2.2.2 _ (getD_mem [] hi)
   have hl:(recP p i).fields.length=(p.structs.getD i []).length:=fldsP_length _ _ _ _
   exact ⟨by rw [hl];exact h16.1,by rw [hl];exact h16.2,labels_nodup p i _ h16.2⟩
 · have e1:(schP p).enums.map SCho.name=(List.range p.enums.length).map enumName:=by
    show ((List.range p.enums.length).map (choP p)).map SCho.name=_
    rw [List.map_map]
    rfl
   have e2:(schP p).structs.map SRec.name=(List.range p.structs.length).map recName:=by
    show ((List.range p.structs.length).map (recP p)).map SRec.name=_
    rw [List.map_map]
    rfl
   rw [e1,e2]
   exact tops_nodup hok.2.2.1 hok.2.1
 · obtain ⟨i,hi,rfl,hfl⟩:=flds_at hok hn hr
   obtain ⟨k,q,hat⟩:=hfl f hf
   obtain ⟨⟨h1,h13⟩,h10,hst,h0⟩:=ref_at hat
   by_cases k10:f.kind=10
   · exact .inl ⟨k10,by rw [enums_len];exact h10 k10⟩
   by_cases k13:f.kind=13
   · exact .inr (.inl ⟨k13,by rw [structs_len];exact hst k13⟩)
   refine .inr (.inr ⟨?_,by omega⟩)
   rw [(base_at hok hat).2.2 k10 k13,h0 k10 k13]
   have hk:f.kind=1∨f.kind=2∨f.kind=3∨f.kind=4∨f.kind=5∨f.kind=6∨f.kind=7∨f.kind=8∨f.kind=9∨f.kind=11∨f.kind=12:=by omega
   rcases hk with h|h|h|h|h|h|h|h|h|h|h<;>rw [h]
   · exact List.getElem_mem (l:=basicN) (n:=0) (by decide)
   · exact List.getElem_mem (l:=basicN) (n:=1) (by decide)
   · exact List.getElem_mem (l:=basicN) (n:=2) (by decide)
   · exact List.getElem_mem (l:=basicN) (n:=3) (by decide)
   · exact List.getElem_mem (l:=basicN) (n:=4) (by decide)
   · exact List.getElem_mem (l:=basicN) (n:=5) (by decide)
   · exact List.getElem_mem (l:=basicN) (n:=6) (by decide)
   · exact List.getElem_mem (l:=basicN) (n:=7) (by decide)
   · exact List.getElem_mem (l:=basicN) (n:=8) (by decide)
   · exact List.getElem_mem (l:=basicN) (n:=9) (by decide)
   · exact List.getElem_mem (l:=basicN) (n:=10) (by decide)
 · obtain ⟨i,hi,rfl,hfl⟩:=flds_at hok hn hr
   obtain ⟨k,q,hat⟩:=hfl f hf
   unfold rDef
   by_cases hd:f.dflt≠0
   · rw [if_pos hd]
     exact (def_at hat hd).2
   · rw [if_neg hd]
     have h0:f.dflt=0:=by omega
     rw [h0]
     rfl
end Go.Proofs.YtokhnoogkdlidaaGreatDoor
namespace Go.Proofs.YtokhnoogkdlidaaGreatDoor
open Go.ChangeShapes Go.WideShapes Go.ChangeAt Go.RowKit Go.Shelf
theorem alone_tok {ok:List Int→Bool}{sg:Int→Bool}{q:Pc}(h:PcOk ok sg q)(hl:(full (pTok q)).length≤8192):toks ok sg (full (pTok q))=([⟨q.k,q.x,0⟩,⟨0,[],(full (pTok q)).length⟩],0,0):=by
 have hs:=h.solid []
 have ht:=h.tok (r:=[]) (.inr (.inr sep_nil))
 rw [List.append_nil] at hs ht
 have hg:gap (full (pTok q)) 0=0:=gap_solid (r:=full (pTok q)) rfl hs
 have he:gap (full (pTok q)) (full (pTok q)).length=(full (pTok q)).length:=gap_end (Nat.le_refl _)
 have hc:Chain ok sg (full (pTok q)) 0 [⟨q.k,q.x,0⟩,⟨0,[],(full (pTok q)).length⟩]:=
  ⟨_,by rw [hg];exact ht,.inr ⟨h.kind,⟨_,by rw [he];exact tok_end rfl,.inl ⟨rfl,rfl⟩⟩⟩⟩
 unfold toks
 rw [if_neg (by omega),chain_toks 2049 0 [] _ (by simp) hc (by simp)]
 rfl
theorem alone_is {s x:ByteArray}{q:Pc}(h:PcOk okU (amg ⟨#[]⟩) q)(hf:full (pTok q)=bts s)(hl:(bts s).length≤8192)(hx:strOfNums q.x=x):aloneB s q.k x=true:=by
 have ht:=alone_tok h (by rw [hf];exact hl)
 rw [hf] at ht
 unfold aloneB
 rw [ht]
 have h1:tokT (([⟨q.k,q.x,0⟩,⟨0,[],(bts s).length⟩]:List Tok).getD 0 noTok)=x:=hx
 rw [h1]
 simp
theorem named_is {s:ByteArray}(h:NameOk s):namedB s=true:=by
 have hq:PcOk okU (amg ⟨#[]⟩) (nmP s []):=⟨blank_nil,.inl ⟨rfl,h.1,h.2.1,h.2.2.1⟩⟩
 have hl:=h.2.2.2
 unfold namedB
 rw [decide_eq_true (by rw [←bts_length];exact hl),show aloneB s 1 s=true from alone_is hq (full_plain 1 (bts s) 0 (by decide)) (by omega) (strOf_bts s)]
 rfl
theorem label_is_ok {s:ByteArray}(h:LabelOk s):labelB s=true:=by
 have hq:PcOk okU (amg ⟨#[]⟩) (⟨3,bts s,[]⟩:Pc):=⟨blank_nil,.inr (.inr (.inl ⟨rfl,h.2.1,h.2.2.1⟩))⟩
 have hl:=h.2.2.2
 have hn:0<(bts s).length:=List.length_pos_iff.2 h.1
 have e:full (pTok (⟨3,bts s,[]⟩:Pc))=bts (quoteB s):=by
  unfold quoteB
  rw [pTok,full_quo,bts_app,bts_app]
  have e1:bts ⟨#[34]⟩=[34]:=rfl
  rw [e1]
  simp
 have hq2:(bts (quoteB s)).length≤8192:=by
  rw [←e,pTok,full_quo]
  simp
  omega
 unfold labelB
 rw [decide_eq_true (by rw [←bts_length];exact hn),decide_eq_true (by rw [←bts_length];exact hl),show aloneB (quoteB s) 3 s=true from alone_is hq e hq2 (strOf_bts s)]
 rfl
theorem dup_is {l:List ByteArray}(h:l.Nodup):decide (dup l=none)=true:=decide_eq_true (dup_none l [] h)
theorem basics:∀ q ∈ basicN,q.kind≤12∧q.ref=0:=by decide
def FitsAll (S:Sch):Prop:=∀ r ∈ S.structs,∀ f ∈ r.fields,if numTB f.kind (f.lists:Nat)=true then fitsT S.enums f.kind (f.ref:Nat) (f.lists:Nat) f.dflt=true else f.dflt=0
theorem field_c {S:Sch}(ht:TextOk S)(hm:MeansOk S)(hf:FitsAll S){r:SRec}(hr:r ∈ S.structs){f:SFld}(hfr:f ∈ r.fields):fieldB (S.structs.map cR).length S.enums (cF f)=true:=by
 have h1:=((ht.rn r hr).2 f hfr).lab
 have h2:=((ht.rn r hr).2 f hfr).lists
 have h3:=hf r hr f hfr
 have hty:typedB (S.structs.map cR).length S.enums.length f.kind (f.ref:Nat) (f.lists:Nat)=true:=by
  unfold typedB
  rw [if_neg (by omega)]
  rcases hm.ty r hr f hfr with ⟨hk,hl⟩|⟨hk,hl⟩|⟨hb,hk⟩
  · rw [if_pos hk]
    exact decide_eq_true ⟨by omega,by omega⟩
  · rw [if_neg (by omega),if_pos hk,List.length_map]
    exact decide_eq_true ⟨by omega,by omega⟩
  · obtain ⟨b1,b2⟩:=basics _ hb
    have b1':f.kind≤12:=b1
    have b2':f.ref=0:=b2
    by_cases k10:f.kind=10
    · exfalso
      have:=look_mem basicN (by have:=hm.nd;exact (List.nodup_append.1 (List.nodup_append.1 this).1).1) _ hb
      have hb2:∀ q ∈ basicN,q.kind≠10:=by decide
      exact hb2 _ hb k10
    · rw [if_neg k10,if_neg (by omega),decide_eq_true (by omega:1≤f.kind),decide_eq_true (by omega:f.kind<13),b2']
      rfl
 unfold fieldB
 show (labelB f.name&&(typedB (S.structs.map cR).length S.enums.length f.kind (f.ref:Nat) (f.lists:Nat)&&if numTB f.kind (f.lists:Nat)=true then fitsT S.enums f.kind (f.ref:Nat) (f.lists:Nat) f.dflt else decide (f.dflt=0)))=true
 rw [label_is_ok h1,hty]
 by_cases hn:numTB f.kind (f.lists:Nat)=true
 · rw [if_pos hn] at h3 ⊢
   rw [h3]
   rfl
 · rw [if_neg hn] at h3 ⊢
   rw [h3]
   rfl
theorem check_is {S:Sch}(ht:TextOk S)(hm:MeansOk S)(hs:1≤S.structs.length)(hf:FitsAll S):checkB (cS S)=true:=by
 have hnames:namesC (S.structs.map cR) S.enums=S.enums.map SCho.name++S.structs.map SRec.name:=by
  unfold namesC
  rw [List.map_map]
  rfl
 have hnd:=hm.nd
 rw [List.append_assoc] at hnd
 obtain ⟨_,hnd2,hdis⟩:=List.nodup_append.1 hnd
 have hfree:(namesC (S.structs.map cR) S.enums).all freeB=true:=by
  rw [hnames,List.all_eq_true]
  intro s hs'
  have hno:lookN basicN s=none:=look_none _ _ (fun h=>hdis s h s hs' rfl)
  have hok:NameOk s:=by
   rcases List.mem_append.1 hs' with h|h
   · obtain ⟨c,hc,rfl⟩:=List.mem_map.1 h
     exact (ht.cn c hc).1
   · obtain ⟨c,hc,rfl⟩:=List.mem_map.1 h
     exact (ht.rn c hc).1
  unfold freeB
  rw [named_is hok,hno]
  rfl
 have hcho:S.enums.all choiceB=true:=by
  rw [List.all_eq_true]
  intro c hc
  obtain ⟨c1,c2,c3⟩:=hm.nn c hc
  have ha:c.names.all namedB=true:=List.all_eq_true.2 fun n hn=>named_is ((ht.cn c hc).2 n hn)
  unfold choiceB
  rw [decide_eq_true ⟨c1,c2⟩,ha,dup_is c3]
  rfl
 have hrec:(S.structs.map cR).all (recordB (S.structs.map cR).length S.enums)=true:=by
  rw [List.all_eq_true]
  intro x hx
  obtain ⟨r,hr,rfl⟩:=List.mem_map.1 hx
  obtain ⟨r1,r2,r3⟩:=hm.nf r hr
  have hl:(cR r).fields.length=r.fields.length:=List.length_map _
  have ha:(cR r).fields.all (fieldB (S.structs.map cR).length S.enums)=true:=List.all_eq_true.2 fun g hg=>by
   obtain ⟨f,hfr,rfl⟩:=List.mem_map.1 (show g ∈ r.fields.map cF from hg)
   exact field_c ht hm hf hr hfr
  have hd:(cR r).fields.map CFld.name=r.fields.map SFld.name:=by
   show (r.fields.map cF).map CFld.name=_
   rw [List.map_map]
   rfl
  unfold recordB
  rw [hl,decide_eq_true ⟨r1,r2⟩,ha,hd,dup_is r3]
  rfl
 unfold checkB
 show (if ¬(1≤(S.structs.map cR).length∧(S.structs.map cR).length≤16)∨8<S.enums.length∨¬((0:Int)≤(S.root:Nat)∧((S.root:Nat):Int)<((S.structs.map cR).length:Int)) then false else
  (namesC (S.structs.map cR) S.enums).all freeB&&(decide (dup (namesC (S.structs.map cR) S.enums)=none)&&(S.enums.all choiceB&&(S.structs.map cR).all (recordB (S.structs.map cR).length S.enums))))=true
 rw [if_neg (by
  have h1:=hm.ns
  have h2:=hm.ne
  have h3:=hm.rt
  rw [List.length_map]
  omega),hfree,hcho,hrec,hnames,dup_is hnd2]
 rfl
theorem fits_made {p:Plan}(hok:planOk p)(hn:PlanNums p):FitsAll (schP p):=by
 intro r hr f hf
 obtain ⟨i,hi,rfl,hfl⟩:=flds_at hok hn hr
 obtain ⟨k,q,hat⟩:=hfl f hf
 obtain ⟨⟨h1,h13⟩,_⟩:=ref_at hat
 obtain ⟨_,_,hd,hfit⟩:=dflt_at hat
 by_cases hnt:numTB f.kind (f.lists:Nat)=true
 · rw [if_pos hnt]
   unfold numTB at hnt
   rw [Bool.and_eq_true] at hnt
   have hl:f.lists=0:=by have:=of_decide_eq_true hnt.1;omega
   rw [hl]
   exact hfit hl (kind_num h13 (of_decide_eq_true hnt.2)).2
 · rw [if_neg hnt]
   rcases Nat.eq_zero_or_pos f.dflt with h|h
   · exact h
   · exfalso
     obtain ⟨hl,hk⟩:=hd (by omega)
     refine hnt ?_
     unfold numTB
     rw [hl,decide_eq_true (kind_size h1 hk)]
     rfl
theorem prints_made {p:Plan}(hok:planOk p)(hn:PlanNums p):((rawT (textS (schP p))).2.1=0∧makeM (rawT (textS (schP p))).1=.ok (schP p)∨(rawT (textS (schP p))).2.1=16)∧checkB (cS (schP p))=true:=
 ⟨read_text (text_made hok hn) (means_made hok hn),check_is (text_made hok hn) (means_made hok hn) (by rw [structs_len];exact hok.1) (fits_made hok hn)⟩
end Go.Proofs.YtokhnoogkdlidaaGreatDoor
namespace Go.Proofs.YtokhnoogkdlidaaGreatDoor
open Go.ChangeShapes Go.WideShapes Go.ChangeAt Go.RowKit Go.Shelf
abbrev noRes (W:World)(g:Nat):Prop:=W.heap[g]?=some (.cells #[.slice none 0 0,.slice none 0 0,.int .i64 0] 30 (0,0))
theorem noRes.below {W W':World}{g B:Nat}(h:noRes W g)(hb:Below B W W')(hB:g<B):noRes W' g:=blk_below h hb hB
theorem noRes.put {W:World}{g:Nat}(h:noRes W g):noRes (((W.setCell ⟨g,0,none⟩ (.slice none 0 0)).setCell ⟨g,1,none⟩ (.slice none 0 0)).setCell ⟨g,2,none⟩ (.int .i64 0)) g:=blk_set3 h _ _ _
theorem bel_put {W W':World}{g B:Nat}(hb:Below B W W')(hB:B≤g)(x y z:Value):Below B W (((W'.setCell ⟨g,0,none⟩ x).setCell ⟨g,1,none⟩ y).setCell ⟨g,2,none⟩ z):=
 ((hb.setCell (p:=⟨g,0,none⟩) hB x).setCell (p:=⟨g,1,none⟩) hB y).setCell (p:=⟨g,2,none⟩) hB z
theorem keep3 {w:World}{g:Nat}{p:Addr}{v x y z:Value}(h:w.cell? p=some v)(hp:p.block≠g):(((w.setCell ⟨g,0,none⟩ x).setCell ⟨g,1,none⟩ y).setCell ⟨g,2,none⟩ z).cell? p=some v:=by
 have e:∀ (w:World) (i:Nat) (x:Value),(w.setCell ⟨g,i,none⟩ x).cell? p=w.cell? p:=fun w i x=>World.cell?_of_block (Below.heap_setCell _ _ _ _ hp)
 rw [e,e,e,h]
theorem keep3d {w:World}{g:Nat}{p:Addr}{v x y z:Value}(h:w.cell? p=some v)(hp:p.block≠g):(((w.drew.setCell ⟨g,0,none⟩ x).setCell ⟨g,1,none⟩ y).setCell ⟨g,2,none⟩ z).cell? p=some v:=keep3 (w:=w.drew) h hp
theorem keep3o {w:World}{g:Nat}{p:Addr}{v x y z:Value}(h:w.cell? p=some v)(hp:p.block≠g):(((w.setCell ⟨g,0,none⟩ x).setCell ⟨g,1,none⟩ y).setCell ⟨g,2,none⟩ z).drew.cell? p=some v:=keep3 h hp
set_option maxRecDepth 100000 in
set_option maxHeartbeats 4000000 in
theorem rma3_wp {Q:Exit→Act→World→Prop}{c:Act}{w0:World}{q n e i E k nc rb:Nat}{a na:Option Addr}{name pl:Value}{l:List Tok}(hc:RmA3 q a n e i E k 0 c)(hk:k<l.length)
  (hE:w0.heap[E]?=some (.cells #[name,pl,.slice na l.length nc] 105 (0,0))) (hEq:q+1<E) (hrow:w0.ownsRow rb 97 3 (.slice na l.length nc) l.length (toksCells l)) (hrq:∀ g,na=some g→g.block≠q+1) (hres:noRes w0 (q+1))
  (hQ:∀ c' w',hasS ((l.map tokT).take k) (tokT l[k])=false→RmA3 q a n e i E k k c'→Below w0.heap.size w0 w'→Q (.exit 4) c' w')
  (hB:∀ c' w',hasS ((l.map tokT).take k) (tokT l[k])=true→RmR q 13 l[k].place c'→noRes w' (q+1)→Below (q+1) w0 w'→Q .ret c' w') :
  Code.wp Tryz.prog (Code.loop (loopsRm 2)) Q c w0:=by
 refine wp_loop (fun c' w'=>∃ x:Nat,x≤k∧RmA3 q a n e i E k x c'∧Below w0.heap.size w0 w'∧hasS ((l.map tokT).take x) (tokT l[k])=false) (fun c' _=>k-(intOf (c'.tmps.getD 9 undef)).toNat) ⟨0,Nat.zero_le _,hc,Below.refl _ _,rfl⟩ ?_
 clear hc
 rintro c wr ⟨x,hx,hc,hb,hi⟩
 have HQ:=Lib.hid hQ
 have HBAD:=Lib.hid hB
 have HRES:=Lib.hid (hres.below hb (blk_lt hres))
 have HB:=Lib.hid hb
 have HEB:=Lib.hid (blk_below hE hb (blk_lt hE))
 have HROW:=Lib.hid (row_keep hb hrow)
 have HRQ:=Lib.hid hrq
 have hfew:=row_few hrow
 have hql:q+1<w0.heap.size:=blk_lt hres
 obtain ⟨u,rfl⟩:=hc.lit
 clear hc hQ hB hb hE hrow hres hrq
 obtain ⟨_,z0,z1,z2,_⟩:=blk3 HEB.out
 conv=>arg 2;whnf
 by_cases hlt:x<k
 · obtain ⟨g,cc,hv,hcc,hg,hcell⟩:=row_el tokCells 3 (fun _=>rfl) HROW.out x (by omega)
   obtain ⟨g2,cc2,hv2,_,_,hcell2⟩:=row_el tokCells 3 (fun _=>rfl) HROW.out k hk
   obtain ⟨rfl,rfl⟩:=slice_inj hv
   obtain ⟨hgg,hcc'⟩:=slice_inj hv2
   cases hgg
   subst hcc'
   have x1:wr.cell? ⟨g,x * 3+1,none⟩=some (.string (tokT l[x])):=hcell 1 (by omega)
   have y1:wr.cell? ⟨g,k * 3+1,none⟩=some (.string (tokT l[k])):=hcell2 1 (by omega)
   have y2:wr.cell? ⟨g,k * 3+2,none⟩=some (.int .i64 l[k].place):=hcell2 2 (by omega)
   have hmx:(l.map tokT)[x]'(by rw [List.length_map];omega)=tokT l[x]:=by rw [List.getElem_map]
   have hst:=has_take_succ (l.map tokT) (tokT l[k]) x (by rw [List.length_map];omega)
   have hgq:g≠q+1:=HRQ.out _ rfl
   rw [hmx] at hst
   have hxl:(x:Int)<l.length:=by omega
   have hkl:(k:Int)<l.length:=by omega
   by_cases hq:tokT l[x]=tokT l[k]
   · have HT:=Lib.hid (show hasS ((l.map tokT).take k) (tokT l[k])=true by
      have hT:=hst
      rw [decide_eq_true hq.symm,Bool.or_true] at hT
      have hsplit:(l.map tokT).take k=(l.map tokT).take (x+1)++((l.map tokT).drop (x+1)).take (k-(x+1)):=by
       rw [←List.take_add]
       congr 1
       omega
      rw [hsplit,hasS_append,hT,Bool.true_or])
     have t3:((tokT l[x]).toList==(tokT l[k]).toList)=true:=ba_yes hq
     obtain ⟨_,_,_,_,f0,f1,f2⟩:=blk3 HRES.out
     clear hq hi hst hmx hcell hcell2 hv hv2
     generalize tokT l[x]=sx at *
     generalize tokT l[k]=sk at *
     generalize l[k].place=pk at *
     go_wp2_with fail
     go_quiet (fail)
     have HW2:=Lib.hid (bel_drewN (Below.refl wr.heap.size wr) nq)
     have k0:(wr.drewN nq).cell? ⟨E,2,none⟩=some (.slice (some ⟨g,0,none⟩) l.length nc):=(World.cell?_drewN ..).trans z2
     have k1:(wr.drewN nq).cell? ⟨g,k * 3+2,none⟩=some (.int .i64 pk):=(World.cell?_drewN ..).trans y2
     obtain ⟨_,_,_,_,f0,f1,f2⟩:=blk3 (HRES.out.below HW2.out (blk_lt HRES.out))
     have HR2:=Lib.hid (HRES.out.below HW2.out (blk_lt HRES.out))
     have hEne:(⟨E,2,none⟩:Addr).block≠q+1:=by show E≠q+1;omega
     have hgne:(⟨g,k * 3+2,none⟩:Addr).block≠q+1:=hgq
     generalize wr.drewN nq=W2 at *
     clear z0 z1 z2 x1 y1 y2
     go_upto_region 18 with (fail)
     go_region_held3 (fun w'=>w'.cell? ⟨E,2,none⟩=some (.slice (some ⟨g,0,none⟩) l.length nc)∧w'.cell? ⟨g,k * 3+2,none⟩=some (.int .i64 pk)) (first|assumption|(with_reducible exact ⟨keep3 k0 hEne,keep3 k1 hgne⟩)|(with_reducible exact ⟨keep3d k0 hEne,keep3d k1 hgne⟩)|(with_reducible exact ⟨keep3o k0 hEne,keep3o k1 hgne⟩)|go_keep) (first|fail)
     all_goals
      simp only [Exit.then]
      apply_assumption
      go_wp2
      exact HBAD.out _ _ HT.out ⟨rfl,rfl,rfl,rfl,rfl⟩ HR2.out.put (bel_put (show Below (q+1) w0 W2 from (HB.out.trans (HW2.out.mono HB.out.size)).mono (Nat.le_of_lt hql)) (Nat.le_refl _) _ _ _).drew
   · have HI:=Lib.hid (show hasS ((l.map tokT).take (x+1)) (tokT l[k])=false by rw [hst,hi,Bool.false_or];exact decide_eq_false fun e=>hq e.symm)
     have t3:((tokT l[x]).toList==(tokT l[k]).toList)=false:=ba_no hq
     clear hq hi hst hmx hcell hcell2 hv hv2
     generalize tokT l[x]=sx at *
     generalize tokT l[k]=sk at *
     go_wp2_with fail
     go_quiet (fail)
     go_wp2_with fail
     refine ⟨⟨x+1,by omega,⟨rfl,rfl,rfl,rfl,rfl,rfl,rfl,rfl,rfl⟩,bel_drewN HB.out _,HI.out⟩,?_⟩
     show k-(intOf (.int .i64 ((x:Int)+1))).toNat<k-(intOf (.int .i64 (x:Int))).toNat
     simp [intOf];omega
 · obtain rfl:x=k:=by omega
   have HI:=Lib.hid hi
   clear hi hlt
   go_wp2
   exact HQ.out _ _ HI.out ⟨rfl,rfl,rfl,rfl,rfl,rfl,rfl,rfl,rfl⟩ HB.out
set_option maxRecDepth 100000 in
set_option maxHeartbeats 4000000 in
theorem rma2_wp {Q:Exit→Act→World→Prop}{c:Act}{w0:World}{q n e i E nc rb:Nat}{a na:Option Addr}{name pl:Value}{l:List Tok}(hc:RmA2 q a n e i E 0 c)
  (hE:w0.heap[E]?=some (.cells #[name,pl,.slice na l.length nc] 105 (0,0))) (hEq:q+1<E) (hrow:w0.ownsRow rb 97 3 (.slice na l.length nc) l.length (toksCells l)) (hrq:∀ g,na=some g→g.block≠q+1) (hres:noRes w0 (q+1))
  (hQ:∀ c' w',dup (l.map tokT)=none→RmA2 q a n e i E l.length c'→Below w0.heap.size w0 w'→Q (.exit 2) c' w')
  (hB:∀ c' w' j (hj:j<l.length),dup (l.map tokT)=some j→RmR q 13 l[j].place c'→noRes w' (q+1)→Below (q+1) w0 w'→Q .ret c' w') :
  Code.wp Tryz.prog (Code.loop (loopsRm 1)) Q c w0:=by
 refine wp_loop (fun c' w'=>∃ k:Nat,k≤l.length∧RmA2 q a n e i E k c'∧Below w0.heap.size w0 w'∧dup (l.map tokT)=dupFrom ((l.map tokT).take k) ((l.map tokT).drop k)) (fun c' _=>l.length-(intOf (c'.tmps.getD 8 undef)).toNat) ⟨0,Nat.zero_le _,hc,Below.refl _ _,rfl⟩ ?_
 clear hc
 rintro c wr ⟨k,hk,hc,hb,hd⟩
 have HQ:=Lib.hid hQ
 have HBAD:=Lib.hid hB
 have HRES:=Lib.hid (hres.below hb (blk_lt hres))
 have HB:=Lib.hid hb
 have HEB:=Lib.hid (blk_below hE hb (blk_lt hE))
 have HROW:=Lib.hid (row_keep hb hrow)
 have HRQ:=Lib.hid hrq
 have HD:=Lib.hid hd
 have hfew:=row_few hrow
 have hql:q+1<w0.heap.size:=blk_lt hres
 obtain ⟨u,rfl⟩:=hc.lit
 clear hc hQ hB hb hE hrow hres hrq hd
 obtain ⟨_,z0,z1,z2,_⟩:=blk3 HEB.out
 conv=>arg 2;whnf
 by_cases hlt:k<l.length
 · have HST:=Lib.hid (HD.out.trans (dupD_step (l.map tokT) k (by rw [List.length_map];exact hlt)))
   rw [List.getElem_map] at HST
   clear HD
   go_wp2_with fail
   refine rma3_wp (k:=k) ⟨rfl,rfl,rfl,rfl,rfl,rfl,rfl,rfl,rfl⟩ hlt HEB.out hEq HROW.out HRQ.out HRES.out ?_ ?_
   · intro c2 w2 hf hc2 hb2
     have HI:=Lib.hid (HST.out.trans (if_neg (by rw [hf];decide)))
     have HB2:=Lib.hid (HB.out.trans (hb2.mono HB.out.size))
     obtain ⟨u2,rfl⟩:=hc2.lit
     clear hc2 hb2 hf z0 z1 z2
     simp only [Exit.inBlock,Exit.then]
     apply_assumption
     go_wp2
     refine ⟨⟨k+1,by omega,⟨rfl,rfl,rfl,rfl,rfl,rfl,rfl,rfl⟩,HB2.out,HI.out⟩,?_⟩
     show l.length-(intOf (.int .i64 ((k:Int)+1))).toNat<l.length-(intOf (.int .i64 (k:Int))).toNat
     simp [intOf];omega
   · intro c2 w2 ht hc2 hr2 hb2
     have HT:=Lib.hid (HST.out.trans (if_pos ht))
     simp only [Exit.inBlock,Exit.then]
     exact HBAD.out _ _ k hlt HT.out hc2 hr2 ((HB.out.mono (Nat.le_of_lt hql)).trans hb2)
 · obtain rfl:k=l.length:=by omega
   have HI:=Lib.hid (show dup (l.map tokT)=none by rw [HD.out,←List.length_map (f:=tokT),List.drop_length];rfl)
   clear hlt HD
   go_wp2
   exact HQ.out _ _ HI.out ⟨rfl,rfl,rfl,rfl,rfl,rfl,rfl,rfl⟩ HB.out
end Go.Proofs.YtokhnoogkdlidaaGreatDoor
