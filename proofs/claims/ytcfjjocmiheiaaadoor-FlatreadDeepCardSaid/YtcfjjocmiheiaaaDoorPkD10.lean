/-
  The document's writer of tables: its block in memory, and what a step of it leaves. Conditions: those that each theorem names.
-/
import Derived.Test.YtcfjjocmiheiaaaDoorPkD1
import Derived.Test.YtcfjjocmiheiaaaDoorPkD3
import Derived.Test.YtcfjjocmiheiaaaDoorPkD4
import Derived.Test.YtcfjjocmiheiaaaDoorPkD5
import Derived.Test.YtcfjjocmiheiaaaDoorPkD6
import Derived.Test.YtcfjjocmiheiaaaDoorPkD9
namespace Go.Proofs.YtcfjjocmiheiaaaDoor
open Go.RowKit
def seqD (f:Nat→Int→Option (PV × Int))(l:Int):Nat→Option (List PV × Int)
 | 0=>some ([],l)
 | j+1=>match seqD f l j with
  | none=>none
  | some (vs,l1)=>match f j l1 with
   | none=>none
   | some (v,l2)=>some (vs++[v],l2)
def numZ (es:List SCho)(zs:List Int)(k:Nat)(ref at' left:Int):Option (PV × Int):=
 if inZ (lenZ zs) at' (kSize k)=true then
  (if fitsT es k ref 0 (if kSign k=true then sgnOf (leAt zs at'.toNat (kSize k).toNat) (kSize k) else leAt zs at'.toNat (kSize k).toNat).toNat=true then
   some (numV (if kSign k=true then sgnOf (leAt zs at'.toNat (kSize k).toNat) (kSize k) else leAt zs at'.toNat (kSize k).toNat).toNat,left) else none)
 else none
def bytesAtZ (zs:List Int)(k:Nat)(to left:Int):Option (PV × Int):=
 if inZ (lenZ zs) to 4=true then
  (if inZ (lenZ zs) to (4+leAt zs to.toNat 4+(if k=11 then 1 else 0))=true∧0≤left-(4+leAt zs to.toNat 4+(if k=11 then 1 else 0)) ∧
      (k=11→zs.getD (to.toNat+4+(leAt zs to.toNat 4).toNat) 0=0∧u8At (partZ zs (to.toNat+4) (leAt zs to.toNat 4).toNat) 0<0)
   then some (.mk 0 (partZ zs (to.toNat+4) (leAt zs to.toNat 4).toNat) [] false,left-(4+leAt zs to.toNat 4+(if k=11 then 1 else 0))) else none)
 else none
def stepZ (k:Nat)(lists:Int):Int:=if numTB k lists=true then kSize k else 4
abbrev NextD:=Nat→Int→Int→Int→Int→Option (PV × Int)
def listAtZ (zs:List Int)(nx:Option NextD)(k:Nat)(ref lists to left:Int):Option (PV × Int):=
 if inZ (lenZ zs) to 4=true then
  (if inZ (lenZ zs) to (4+leAt zs to.toNat 4 * stepZ k lists)=true∧0≤left-(4+leAt zs to.toNat 4 * stepZ k lists) then
   (match nx with
    | none=>if leAt zs to.toNat 4=0 then some (.mk 0 [] [] false,left-(4+leAt zs to.toNat 4 * stepZ k lists)) else none
    | some f=>match seqD (fun j l=>f k ref lists (to+4+j * stepZ k lists) l) (left-(4+leAt zs to.toNat 4 * stepZ k lists)) (leAt zs to.toNat 4).toNat with
     | none=>none
     | some (ks,l)=>some (.mk 0 [] ks false,l)) else none)
 else none
def fieldZ (zs:List Int)(f:NextD)(fs:List CFld)(to:Int)(t:TabZ)(j:Nat)(l:Int):Option (PV × Int):=
 match fs[j]? with
 | none=>none
 | some x =>
  if offZ zs t j=0 then some (numV x.dflt,l)
  else if offZ zs t j<4∨t.own<offZ zs t j+inlC x.kind x.lists then none
  else f x.kind x.ref x.lists (to+offZ zs t j) l
def recC (ss:List CRec)(ref:Int):CRec:=ss.getD ref.toNat ⟨⟨#[]⟩,[]⟩
def structAtZ (ss:List CRec)(zs:List Int)(nx:Option NextD)(ref to left:Int):Option (PV × Int):=
 match tabZ zs to with
 | none=>none
 | some t=>match nx with
  | none=>none
  | some f =>
   if left-(t.size+t.own)<0 then none else
   match seqD (fieldZ zs f (recC ss ref).fields to t) (left-(t.size+t.own)) (recC ss ref).fields.length with
   | none=>none
   | some (ks,l)=>some (.mk 0 [] ks true,l)
def pointZ (zs:List Int)(at':Int)(g:Int→Option (PV × Int)):Option (PV × Int):=
 match jumpZ zs at' with
 | none=>none
 | some to=>g to
def valZ (ss:List CRec)(es:List SCho)(zs:List Int)(nx:Option NextD)(k:Nat)(ref lists at' left:Int):Option (PV × Int):=
 if sortP k lists=1 then numZ es zs k ref at' left
 else if sortP k lists=2 then pointZ zs at' fun to=>bytesAtZ zs k to left
 else if sortP k lists=3 then pointZ zs at' fun to=>listAtZ zs nx k ref (lists-1) to left
 else if sortP k lists=4 then pointZ zs at' fun to=>structAtZ ss zs nx ref to left
 else none
def flatZ (ss:List CRec)(es:List SCho)(zs:List Int):Nat→NextD
 | 0=>valZ ss es zs none
 | r+1=>valZ ss es zs (some (flatZ ss es zs r))
def nextZ (ss:List CRec)(es:List SCho)(zs:List Int):Nat→Option NextD
 | 0=>none
 | r+1=>some (flatZ ss es zs r)
theorem flatZ_eq (ss:List CRec)(es:List SCho)(zs:List Int)(room k:Nat)(ref lists at' left:Int):flatZ ss es zs room k ref lists at' left=valZ ss es zs (nextZ ss es zs room) k ref lists at' left:=by
 cases room<;>rfl
theorem seqD_le {f:Nat→Int→Option (PV × Int)}{l:Int}:∀ {n j:Nat},j≤n→seqD f l j=none→seqD f l n=none
 | 0,j,h,hn=>by
  obtain rfl:j=0:=by omega
  exact hn
 | n+1,j,h,hn=>by
  rcases Nat.lt_or_ge n j with h1|h1
  · obtain rfl:j=n+1:=by omega
    exact hn
  · show (match seqD f l n with|none=>none|some (vs,l1)=>match f n l1 with|none=>none|some (v,l2)=>some (vs++[v],l2))=none
    rw [seqD_le h1 hn]
theorem seqD_succ {f:Nat→Int→Option (PV × Int)}{l l1:Int}{j:Nat}{vs:List PV}(h:seqD f l j=some (vs,l1)):seqD f l (j+1)=match f j l1 with|none=>none|some (v,l2)=>some (vs++[v],l2):=by
 show (match seqD f l j with|none=>none|some (vs,l1)=>match f j l1 with|none=>none|some (v,l2)=>some (vs++[v],l2))=_
 rw [h]
theorem seqD_length {f:Nat→Int→Option (PV × Int)}{l:Int}:∀ {n:Nat} {vs:List PV} {l1:Int},seqD f l n=some (vs,l1)→vs.length=n
 | 0,vs,l1,h=>by
  injection h with h
  injection h with h _
  subst h
  rfl
 | n+1,vs,l1,h=>by
  cases h1:seqD f l n with
  | none=>rw [seqD_le (Nat.le_succ n) h1] at h;cases h
  | some p =>
   obtain ⟨us,l2⟩:=p
   rw [seqD_succ h1] at h
   cases h2:f n l2 with
   | none=>rw [h2] at h;cases h
   | some q =>
    obtain ⟨v,l3⟩:=q
    rw [h2] at h
    injection h with h
    injection h with h _
    subst h
    rw [List.length_append,seqD_length h1]
    rfl
theorem seqD_at {f:Nat→Int→Option (PV × Int)}{l:Int}:∀ {n:Nat} {vs:List PV} {l1:Int},seqD f l n=some (vs,l1)→∀ j (hj:j<vs.length),∃ l2 l3,f j l2=some (vs[j],l3)
 | 0,vs,l1,h,j,hj=>by
  injection h with h
  injection h with h _
  subst h
  exact absurd hj (Nat.not_lt_zero _)
 | n+1,vs,l1,h,j,hj=>by
  cases h1:seqD f l n with
  | none=>rw [seqD_le (Nat.le_succ n) h1] at h;cases h
  | some p =>
   obtain ⟨us,l2⟩:=p
   rw [seqD_succ h1] at h
   cases h2:f n l2 with
   | none=>rw [h2] at h;cases h
   | some q =>
    obtain ⟨v,l3⟩:=q
    rw [h2] at h
    injection h with h
    injection h with h _
    subst h
    have hl:=seqD_length h1
    rcases Nat.lt_or_ge j us.length with h3|h3
    · obtain ⟨a,b,hab⟩:=seqD_at h1 j h3
      exact ⟨a,b,by rw [hab,List.getElem_append_left h3]⟩
    · obtain rfl:j=n:=by rw [List.length_append] at hj;simp at hj;omega
      exact ⟨l2,l3,by rw [h2,List.getElem_append_right h3];simp [hl]⟩
end Go.Proofs.YtcfjjocmiheiaaaDoor
namespace Go.Proofs.YtcfjjocmiheiaaaDoor
open Go.ChangeShapes Go.WideShapes Go.ChangeAt Go.RowKit Go.Shelf
def inlP (f:SFld):Int:=if isNumP f.kind f.lists=true then kSize f.kind else 4
structure TabSt where
 pl:List Int
 size:Int
 al:Int
def tabStep (z:Int)(b:Bool)(f:SFld)(k:Nat)(s:TabSt):TabSt:=
 if b=true∧inlP f=z then ⟨s.pl.set k (multI s.size z),multI s.size z+z,max s.al z⟩ else s
def tabUp (z:Int)(fs:List SFld)(th:List Bool)(s:TabSt):Nat→TabSt
 | 0=>s
 | k+1=>tabStep z (th.getD k false) (fs.getD k noSF) k (tabUp z fs th s k)
def inlinesL:List Int:=[8,4,2,1]
def tabAll (fs:List SFld)(th:List Bool):Nat→TabSt
 | 0=>⟨List.replicate fs.length 0,4,4⟩
 | z+1=>tabUp (inlinesL.getD z 0) fs th (tabAll fs th z) fs.length
theorem inlines_is (z:Nat)(h:z<4):inlinesL.getD z 0=8∨inlinesL.getD z 0=4∨inlinesL.getD z 0=2∨inlinesL.getD z 0=1:=by
 have:z=0∨z=1∨z=2∨z=3:=by omega
 rcases this with rfl|rfl|rfl|rfl<;>decide
theorem mult_bd {n z:Int}(hz:z=8∨z=4∨z=2∨z=1)(_h:0≤n):n≤multI n z∧multI n z≤n+7:=by
 unfold multI
 rcases hz with rfl|rfl|rfl|rfl<;>omega
theorem mult_up {n c z:Int}(hz:z=8∨z=4∨z=2∨z=1)(h1:n≤c)(h2:c≤multI n z)(h3:¬c % z=0):c+1≤multI n z:=by
 unfold multI at *
 rcases hz with rfl|rfl|rfl|rfl<;>omega
theorem mult_end {n c z:Int}(hz:z=8∨z=4∨z=2∨z=1)(h1:n≤c)(h2:c≤multI n z)(h3:c % z=0):c=multI n z:=by
 unfold multI at *
 rcases hz with rfl|rfl|rfl|rfl<;>omega
theorem tabUp_step {z:Int}{fs:List SFld}{th:List Bool}{s:TabSt}{k:Nat}(hk:k<fs.length)(ht:k<th.length):tabUp z fs th s (k+1)=tabStep z th[k] fs[k] k (tabUp z fs th s k):=by
 show tabStep z (th.getD k false) (fs.getD k noSF) k _=_
 rw [List.getD,List.getElem?_eq_getElem ht,List.getD,List.getElem?_eq_getElem hk,Option.getD_some,Option.getD_some]
theorem tabUp_facts {z:Int}(hz:z=8∨z=4∨z=2∨z=1)(fs:List SFld)(th:List Bool)(s:TabSt)(h0:4≤s.size)(h4:4≤s.al)(h8:s.al≤8):∀ k:Nat,(tabUp z fs th s k).pl.length=s.pl.length∧4≤(tabUp z fs th s k).size∧(tabUp z fs th s k).size≤s.size+15 * k∧4≤(tabUp z fs th s k).al∧(tabUp z fs th s k).al≤8
 | 0=>by simp [tabUp];omega
 | k+1=>by
  obtain ⟨h1,h2,h3,h5,h6⟩:=tabUp_facts hz fs th s h0 h4 h8 k
  have hm:=mult_bd hz (show 0≤(tabUp z fs th s k).size by omega)
  unfold tabUp tabStep
  split
  · simp only [List.length_set]
    refine ⟨h1,?_,?_,?_,?_⟩
    · omega
    · omega
    · omega
    · omega
  · omega
theorem tabAll_facts (fs:List SFld)(th:List Bool):∀ z:Nat,z≤4→(tabAll fs th z).pl.length=fs.length∧4≤(tabAll fs th z).size∧(tabAll fs th z).size≤4+15 * (fs.length * z:Nat)∧4≤(tabAll fs th z).al∧(tabAll fs th z).al≤8
 | 0,_=>by simp [tabAll]
 | z+1,hz=>by
  obtain ⟨h1,h2,h3,h5,h6⟩:=tabAll_facts fs th z (by omega)
  have hu:=tabUp_facts (inlines_is z (by omega)) fs th (tabAll fs th z) h2 h5 h6 fs.length
  rw [Nat.mul_succ]
  unfold tabAll
  obtain ⟨g1,g2,g3,g4,g5⟩:=hu
  refine ⟨g1.trans h1,g2,?_,g4,g5⟩
  generalize fs.length * z=q at *
  omega
theorem tabStep_yes {z:Int}{b:Bool}{f:SFld}{k:Nat}{s:TabSt}(hb:b=true)(hi:inlP f=z):tabStep z b f k s=⟨s.pl.set k (multI s.size z),multI s.size z+z,max s.al z⟩:=if_pos ⟨hb,hi⟩
theorem tabStep_no {z:Int}{b:Bool}{f:SFld}{k:Nat}{s:TabSt}(h:b=false∨¬inlP f=z):tabStep z b f k s=s:=by
 refine if_neg (fun hc=>?_)
 rcases h with h|h
 · rw [h] at hc;exact absurd hc.1 (by decide)
 · exact h hc.2
theorem inlP_num {fn:ByteArray}{fk fr fl fd:Nat}(h:isNumP fk fl=true):inlP ⟨fn,fk,fr,fl,fd⟩=kSize fk:=if_pos h
theorem inlP_no {fn:ByteArray}{fk fr fl fd:Nat}(h:isNumP fk fl=false):inlP ⟨fn,fk,fr,fl,fd⟩=4:=if_neg (by rw [h];decide)
theorem inlP_bd (f:SFld):0≤inlP f∧inlP f≤8:=by
 unfold inlP
 split
 · exact kSize_bd _
 · omega
theorem linline_any (fn:ByteArray)(fk fr fl fd:Nat)(w:World) :
  Calls Tryd.prog 71 #[.agg #[.string fn,.int .u8 fk,.int .i64 fr,.int .i64 fl,.int .u64 fd]] w fun e w'=>e=.returned (.int .i64 (inlP ⟨fn,fk,fr,fl,fd⟩))∧Below w.heap.size w w':=by
 have hq:=heap_alloc_new w (.cells #[.string fn,.int .u8 fk,.int .i64 fr,.int .i64 fl,.int .u64 fd] 52)
 have HB:=Lib.hid ((Below.refl w.heap.size w).alloc (Nat.le_refl _) (.cells #[.string fn,.int .u8 fk,.int .i64 fr,.int .i64 fl,.int .u64 fd] 52))
 go_enter Tryd.func71,Tryd.ntmps71
 go_upto_region 1 with (fail)
 generalize w.alloc (.cells #[.string fn,.int .u8 fk,.int .i64 fr,.int .i64 fl,.int .u64 fd] 52)=W1 at *
 have hlt:=blk_lt hq
 have y1:=(blk_cell hq 1).trans rfl
 have y2:=(blk_cell hq 2).trans rfl
 have y3:=(blk_cell hq 3).trans rfl
 have HQ:=Lib.hid hq
 clear hq
 go_wp2_with fail
 refine (lnumber_any fk fr fl W1).mono ?_
 rintro e W2 ⟨rfl,hb2⟩
 have HB2:=Lib.hid (HB.out.trans (hb2.mono HB.out.size))
 have z1:=(blk_cell (blk_below HQ.out hb2 hlt) 1).trans rfl
 clear hb2 y1 y2 y3
 cases hnum:isNumP fk fl
 · have HE:=Lib.hid (inlP_no (fn:=fn) (fr:=fr) (fd:=fd) hnum)
   clear hnum
   go_wp2
   go_ret
   exact ⟨ret_int HE.out.symm,HB2.out⟩
 · have HE:=Lib.hid (inlP_num (fn:=fn) (fr:=fr) (fd:=fd) hnum)
   clear hnum
   go_wp2_with fail
   refine (wsize_any (fk:Int) W2).mono ?_
   rintro e W3 ⟨rfl,rfl⟩
   go_wp2
   go_ret
   exact ⟨ret_int HE.out.symm,HB2.out⟩
def boolCell (b:Bool):List Value:=[.bool b]
def boolCells (l:List Bool):List Value:=l.flatMap boolCell
theorem row_bool {w:World}{base:Nat}{v:Value}{l:List Bool}(h:w.ownsRow base 4 1 v l.length (boolCells l))(k:Nat)(hk:k<l.length) :
  ∃ g c,v=.slice (some ⟨g,0,none⟩) l.length c∧l.length≤c∧g<w.heap.size∧w.cell? ⟨g,k,none⟩=some (.bool l[k]):=by
 obtain ⟨g,c,hv,hc,hg,hcell⟩:=row_el boolCell 1 (fun _=>rfl) h k hk
 have h0:=hcell 0 (by omega)
 rw [Nat.mul_one,Nat.add_zero] at h0
 exact ⟨g,c,hv,hc,hg,h0⟩
end Go.Proofs.YtcfjjocmiheiaaaDoor
namespace Go.Proofs.YtcfjjocmiheiaaaDoor
open Go.RowKit
def isDefB (d:Nat)(v:PV):Bool:=v.num==d&&v.bytes.isEmpty&&v.kids.isEmpty && !v.has
theorem isDefB_iff (d:Nat)(v:PV):isDefB d v=true ↔ v=numV d:=by
 obtain ⟨n,bs,ks,h⟩:=v
 simp only [isDefB,numV,PV.num,PV.bytes,PV.kids,PV.has,Bool.and_eq_true,beq_iff_eq,List.isEmpty_iff,Bool.not_eq_true',PV.mk.injEq]
 exact ⟨fun ⟨⟨⟨a,b⟩,c⟩,d⟩=>⟨a,b,c,d⟩,fun ⟨a,b,c,d⟩=>⟨⟨⟨a,b⟩,c⟩,d⟩⟩
def padE (m:Nat)(zs:List Int):List Int:=zs++zeros ((m-zs.length % m) % m)
def putE (s:Nat)(n:Int)(zs:List Int):List Int:=zs++laidOver (zeros s) 0 n s
def setE (a s:Nat)(n:Int)(zs:List Int):List Int:=laidOver zs a n s
def seqE (f:Nat→List Int→List Int)(zs:List Int):Nat→List Int
 | 0=>zs
 | j+1=>f j (seqE f zs j)
abbrev NextE:=Nat→Int→Int→PV→Nat→List Int→List Int
def thereE (fs:List SFld)(vs:List PV):List Bool:=(List.range fs.length).map fun i => !isDefB (fs.getD i ⟨⟨#[]⟩,0,0,0,0⟩).dflt (vs.getD i (numV 0))
def lastE (th:List Bool):Nat→Nat
 | 0=>0
 | j+1=>if th.getD j false=true then j+1 else lastE th j
def recE (ss:List SRec)(ref:Int):SRec:=ss.getD ref.toNat ⟨⟨#[]⟩,[]⟩
def headE (fs:List SFld)(th:List Bool)(zs:List Int):List Int:=
 seqE (fun i=>putE 2 ((tabAll fs th 4).pl.getD i 0)) (putE 2 (tabAll fs th 4).size (putE 2 (4+2 * (lastE th fs.length:Int)) (padE 2 zs))) (lastE th fs.length)
def kidE (b:Bool)(f:List Int→List Int)(zs:List Int):List Int:=
 match b with
 | true=>f zs
 | false=>zs
def tableE (ss:List SRec)(nx:NextE)(ref:Int)(v:PV)(frm:Nat)(zs:List Int):List Int:=
 let fs:=(recE ss ref).fields
 let th:=thereE fs v.kids
 let st:=tabAll fs th 4
 let z1:=padE st.al.toNat (headE fs th zs)
 let z2:=putE 4 ((z1.length:Int)-((padE 2 zs).length:Int)) z1
 let z3:=setE frm 4 ((z1.length:Int)-frm) z2
 let z4:=z3++zeros (z1.length+st.size.toNat-z3.length)
 seqE (fun i=>kidE (th.getD i false) (nx (fs.getD i ⟨⟨#[]⟩,0,0,0,0⟩).kind (fs.getD i ⟨⟨#[]⟩,0,0,0,0⟩).ref (fs.getD i ⟨⟨#[]⟩,0,0,0,0⟩).lists (v.kids.getD i (numV 0)) (z1.length+(st.pl.getD i 0).toNat))) z4 fs.length
def listE (nx:NextE)(k:Nat)(ref lists:Int)(v:PV)(frm:Nat)(zs:List Int):List Int:=
 let step:=(stepZ k lists).toNat
 let z0:=padE 4 zs
 let z1:=if step=8∧(z0.length+4) % 8≠0 then z0++zeros 4 else z0
 let z2:=setE frm 4 ((z1.length:Int)-frm) (putE 4 (v.kids.length:Nat) z1)
 seqE (fun i=>nx k ref lists (v.kids.getD i (numV 0)) (z1.length+4+i * step)) (z2++zeros (step * v.kids.length)) v.kids.length
def bytesE (k:Nat)(v:PV)(at':Nat)(zs:List Int):List Int:=
 setE at' 4 (((padE 4 zs).length:Int)-at') (putE 4 (v.bytes.length:Nat) (padE 4 zs))++v.bytes++(if k=11 then [0] else [])
def valE (ss:List SRec)(nx:NextE)(k:Nat)(ref lists:Int)(v:PV)(at':Nat)(zs:List Int):List Int:=
 if numTB k lists=true then setE at' (kSize k).toNat v.num zs
 else if 0<lists then listE nx k ref (lists-1) v at' zs
 else if k=13 then tableE ss nx ref v at' zs
 else bytesE k v at' zs
def encE (ss:List SRec):Nat→NextE
 | 0=>fun _ _ _ _ _ zs=>zs
 | r+1=>valE ss (encE ss r)
def encZ (ss:List SRec)(room:Nat)(root:Int)(v:PV):List Int:=tableE ss (encE ss room) root v 0 (zeros 4)
theorem padE_le (m:Nat)(zs:List Int):zs.length≤(padE m zs).length:=by simp [padE]
theorem putE_length (s:Nat)(n:Int)(zs:List Int):(putE s n zs).length=zs.length+s:=by simp [putE,laidOver_length,zeros]
theorem setE_length (a s:Nat)(n:Int)(zs:List Int):(setE a s n zs).length=zs.length:=laidOver_length ..
theorem seqE_le {f:Nat→List Int→List Int}(hf:∀ i zs,zs.length≤(f i zs).length)(zs:List Int):∀ n,zs.length≤(seqE f zs n).length
 | 0=>Nat.le_refl _
 | n+1=>Nat.le_trans (seqE_le hf zs n) (hf n _)
theorem headE_le (fs:List SFld)(th:List Bool)(zs:List Int):zs.length≤(headE fs th zs).length:=by
 refine Nat.le_trans ?_ (seqE_le (fun i zs=>by rw [putE_length];omega) _ _)
 rw [putE_length,putE_length]
 have:=padE_le 2 zs
 omega
def Grows (nx:NextE):Prop:=∀ k ref lists v a zs,zs.length≤(nx k ref lists v a zs).length
theorem tableE_le {ss:List SRec}{nx:NextE}(hn:Grows nx)(ref:Int)(v:PV)(frm:Nat)(zs:List Int):zs.length≤(tableE ss nx ref v frm zs).length:=by
 refine Nat.le_trans ?_ (seqE_le (fun i zs=>by unfold kidE;split;exact hn ..;exact Nat.le_refl _) _ _)
 rw [List.length_append,setE_length,putE_length]
 have h1:=headE_le (recE ss ref).fields (thereE (recE ss ref).fields v.kids) zs
 have h2:=padE_le (tabAll (recE ss ref).fields (thereE (recE ss ref).fields v.kids) 4).al.toNat (headE (recE ss ref).fields (thereE (recE ss ref).fields v.kids) zs)
 omega
theorem listE_le {nx:NextE}(hn:Grows nx)(k:Nat)(ref lists:Int)(v:PV)(frm:Nat)(zs:List Int):zs.length≤(listE nx k ref lists v frm zs).length:=by
 refine Nat.le_trans ?_ (seqE_le (fun i zs=>hn ..) _ _)
 rw [List.length_append,setE_length,putE_length]
 have h1:=padE_le 4 zs
 split
 · rw [List.length_append];omega
 · omega
theorem bytesE_le (k:Nat)(v:PV)(a:Nat)(zs:List Int):zs.length≤(bytesE k v a zs).length:=by
 have h1:=padE_le 4 zs
 simp only [bytesE,List.length_append,setE_length,putE_length]
 omega
theorem encE_grows (ss:List SRec):∀ r,Grows (encE ss r)
 | 0=>fun _ _ _ _ _ _=>Nat.le_refl _
 | r+1=>fun k ref lists v a zs=>by
  show zs.length≤(valE ss (encE ss r) k ref lists v a zs).length
  unfold valE
  split
  · rw [setE_length];exact Nat.le_refl _
  · split
    · exact listE_le (encE_grows ss r) ..
    · split
      · exact tableE_le (encE_grows ss r) ..
      · exact bytesE_le ..
end Go.Proofs.YtcfjjocmiheiaaaDoor
namespace Go.Proofs.YtcfjjocmiheiaaaDoor
open Go.ChangeShapes Go.WideShapes Go.ChangeAt Go.RowKit Go.Shelf
structure WrSt (W:World)(base wk:Nat)(A:Option Addr)(cap:Nat)(sv ev:Value)(root:Int)(zs:List Int):Prop where
 blk:W.heap[wk]?=some (.cells #[sv,ev,.int .i64 root,.slice A zs.length cap] 110 (0,0))
 own:OwnV W base 5 A cap zs
 rng:∀ z ∈ zs,0≤z∧z≤255
 hb:base≤wk
structure Wx (wk:Nat)(A A':Option Addr)(w w':World):Prop where
 os:w'.os=w.os
 tape:w'.tape=w.tape
 output:w'.output=w.output
 size:w.heap.size≤w'.heap.size
 block:∀ k,k<w.heap.size→k≠wk→some k≠rowOf A→w'.heap[k]?=w.heap[k]?
 row:rowOf A'=rowOf A∨∃ k,rowOf A'=some k∧w.heap.size≤k
theorem Wx.refl (wk:Nat)(A:Option Addr)(w:World):Wx wk A A w w:=⟨rfl,rfl,rfl,Nat.le_refl _,fun _ _ _ _=>rfl,.inl rfl⟩
theorem Wx.trans {wk:Nat}{A A1 A2:Option Addr}{w w1 w2:World}(h:Wx wk A A1 w w1)(k:Wx wk A1 A2 w1 w2):Wx wk A A2 w w2:=by
 refine ⟨k.os.trans h.os,k.tape.trans h.tape,k.output.trans h.output,Nat.le_trans h.size k.size,fun i hi h1 h2=>(k.block i (Nat.lt_of_lt_of_le hi h.size) h1 ?_).trans (h.block i hi h1 h2),?_⟩
 · rcases h.row with e|⟨j,e,hj⟩
   · rw [e];exact h2
   · rw [e];intro e2;injection e2 with e2;omega
 · rcases k.row with e|⟨j,e,hj⟩
   · rcases h.row with e'|⟨j,e',hj⟩
     · exact .inl (e.trans e')
     · exact .inr ⟨j,e.trans e',hj⟩
   · exact .inr ⟨j,e,Nat.le_trans h.size hj⟩
theorem Wx.of_below {wk:Nat}(A:Option Addr){w w':World}(h:Below w.heap.size w w'):Wx wk A A w w':=⟨h.os,h.tape,h.output,h.size,fun k hk _ _=>h.block k hk,.inl rfl⟩
theorem Wx.cell {wk:Nat}{A A':Option Addr}{w w':World}(h:Wx wk A A' w w'){p:Addr}{v:Value}(hp:w.cell? p=some v)(h1:p.block≠wk)(h2:some p.block≠rowOf A):w'.cell? p=some v:=
 (World.cell?_of_block (h.block p.block (World.block_lt_of_cell? w p hp) h1 h2)).trans hp
theorem Wx.blk {wk g:Nat}{A A':Option Addr}{w w':World}{o:Obj}(h:Wx wk A A' w w')(hg:w.heap[g]?=some o)(hl:g<w.heap.size)(h1:g≠wk)(h2:some g≠rowOf A):w'.heap[g]?=some o:=(h.block g hl h1 h2).trans hg
theorem Wx.below {wk base:Nat}{A A':Option Addr}{w w':World}(h:Wx wk A A' w w')(hb:base≤wk)(ha:∀ k,rowOf A=some k→base≤k)(hB:base≤w.heap.size):Below base w w':=
 ⟨h.os,h.tape,h.output,h.size,fun k hk=>h.block k (by omega) (by omega) (fun e=>by have:=ha k e.symm;omega)⟩
theorem Wx.ownsRow {wk:Nat}{A A':Option Addr}{w w':World}(h:Wx wk A A' w w'){base:Nat}{e:TypeId}{size:Nat}{v:Value}{n:Nat}{xs:List Value}(ho:w.ownsRow base e size v n xs)(h1:v.ownBlock≠some wk)(h2:∀ k,v.ownBlock=some k→some k≠rowOf A):w'.ownsRow base e size v n xs:=by
 obtain ⟨hl,h3⟩:=ho
 refine ⟨hl,?_⟩
 rcases h3 with h3|⟨g,cap,cur,rfl,hg,hblk,h4⟩
 · exact .inl h3
 · exact .inr ⟨g,cap,cur,rfl,hg,h.blk hblk (blk_lt hblk) (fun e=>h1 (by rw [e];rfl)) (h2 g rfl),h4⟩
section
variable {w:World} {base wk:Nat} {A:Option Addr} {cap:Nat} {sv ev:Value} {root:Int} {zs:List Int}
theorem WrSt.below {w':World}(h:WrSt w base wk A cap sv ev root zs)(hb:Below w.heap.size w w'):WrSt w' base wk A cap sv ev root zs:=
 ⟨blk_below h.blk hb (blk_lt h.blk),row_keep hb h.own,h.rng,h.hb⟩
theorem WrSt.ne (h:WrSt w base wk A cap sv ev root zs):rowOf A≠some wk:=by
 have h1:=row_other h.own h.blk (by decide)
 rw [ownBlock_rowOf] at h1
 exact h1
theorem WrSt.row (h:WrSt w base wk A cap sv ev root zs):∀ k,rowOf A=some k→base≤k∧k<w.heap.size:=fun k hk=>ownsRow_lt h.own k (by rw [ownBlock_rowOf];exact hk)
theorem WrSt.few (h:WrSt w base wk A cap sv ev root zs):zs.length≤cap:=by
 have h1:=row_cap (show w.ownsRow base 5 1 (.slice A zs.length cap) zs.length (u8s zs) from h.own)
 exact h1
theorem laid_mem {zs:List Int}(h:∀ z ∈ zs,0≤z∧z≤255)(a:Nat)(n:Int):∀ k,∀ z ∈ laidOver zs a n k,0≤z∧z≤255
 | 0,z,hz=>h z hz
 | k+1,z,hz=>by
  rcases List.mem_or_eq_of_mem_set hz with h1|h1
  · exact laid_mem h a n k z h1
  · subst h1;exact byteAt_bd n k
theorem zeros_mem {s:Nat}{z:Int}(hz:z ∈ zeros s):z=0:=(List.mem_replicate.1 hz).2
theorem laid_rng (s:Nat)(n:Int):∀ z ∈ laidOver (zeros s) 0 n s,0≤z∧z≤255:=laid_mem (fun z hz=>by rw [zeros_mem hz];decide) 0 n s
theorem srcrow_of {W:World}{b:Nat}{e:TypeId}{g n c:Nat}{ys:List Int}(h:OwnR W b e g n c ys):SrcRow W (some ⟨g,0,none⟩) n c (u8s ys):=by
 have hf:=h.facts
 refine ⟨by simp [u8s,hf.1],fun u hu=>?_,.inr ⟨_,rfl,fun j u hj=>?_⟩⟩
 · obtain ⟨z,_,rfl⟩:=List.mem_map.1 hu
   rfl
 · have hjl:j<ys.length:=by
    rcases Nat.lt_or_ge j ys.length with h1|h1
    · exact h1
    · rw [List.getElem?_eq_none (by simpa [u8s] using h1)] at hj;cases hj
   have h1:=hf.2.2.2.2.2.1 j hjl
   rw [show u8s ys=ys.map (.int .u8) from rfl,List.getElem?_map,List.getElem?_eq_getElem hjl] at hj
   injection hj with hj
   subst hj
   rw [List.getD,List.getElem?_eq_getElem hjl,Option.getD_some] at h1
   rw [show (⟨g,0,none⟩:Addr).add j=⟨g,j,none⟩ from by cases j<;>simp [Addr.add]]
   exact h1
theorem row_keep_set {W:World}{b:Nat}{e:TypeId}{g1 g n c j:Nat}{u:Value}{ys:List Int}(h:OwnR W b e g1 n c ys)(hne:g≠g1):OwnR (W.setCell ⟨g,j,none⟩ u) b e g1 n c ys:=
 ((Exw.refl g g _ W).setCell (p:=⟨g,j,none⟩) (.inl rfl) u).ownsRow h (fun e=>by injection e with e;exact hne e.symm) (fun e=>by injection e with e;exact hne e.symm)
def WrPost (r:Value)(base wk:Nat)(A:Option Addr)(sv ev:Value)(root:Int)(zs':List Int)(w:World)(e:Ending)(w':World):Prop:=e=.returned r∧∃ A' cap',WrSt w' base wk A' cap' sv ev root zs'∧Wx wk A A' w w'
theorem wr_app {W7 W8:World}(h:WrSt w base wk A cap sv ev root zs)(h7:Below w.heap.size w W7)(hg:W7.grownBy W8 (rowOf A)){v4:Value}{news:List Int}(ho:W8.ownsRow base 5 1 v4 (zs.length+news.length) (u8s (zs++news)))(hrow:v4.ownBlock=rowOf A∨v4.ownBlock=some W7.heap.size)(hr:∀ z ∈ news,0≤z∧z≤255) :
  ∃ A' cap',v4=.slice A' (zs.length+news.length) cap'∧W8.heap[wk]?=some (.cells #[sv,ev,.int .i64 root,.slice A zs.length cap] 110 (0,0))∧WrSt (W8.setCell ⟨wk,3,none⟩ v4) base wk A' cap' sv ev root (zs++news)∧Wx wk A A' w (W8.setCell ⟨wk,3,none⟩ v4):=by
 obtain ⟨A',cap',rfl⟩:=ownsRow_form ho
 have hwl:=blk_lt h.blk
 have hs7:=h7.size
 have hs8:=hg.size
 have h8:W8.heap[wk]?=some (.cells #[sv,ev,.int .i64 root,.slice A zs.length cap] 110 (0,0)):=(hg.block wk (by omega) (fun e=>h.ne e.symm)).trans (blk_below h.blk h7 hwl)
 rw [ownBlock_rowOf] at hrow
 have hne:(Value.slice A' (zs.length+news.length) cap').ownBlock≠some wk:=by
  rw [ownBlock_rowOf]
  rcases hrow with e|e
  · rw [e];exact h.ne
  · rw [e];intro e2;injection e2 with e2;omega
 refine ⟨A',cap',rfl,h8,⟨?_,?_,?_,h.hb⟩,⟨?_,?_,?_,?_,?_,?_⟩⟩
 · rw [List.length_append]
   exact (blk_set h8 3 _).trans rfl
 · unfold OwnV
   rw [List.length_append]
   exact ((Exw.refl wk wk _ W8).setCell (p:=⟨wk,3,none⟩) (.inl rfl) _).ownsRow ho hne hne
 · intro z hz
   rcases List.mem_append.1 hz with h1|h1
   · exact h.rng z h1
   · exact hr z h1
 · exact hg.os.trans h7.os
 · exact hg.tape.trans h7.tape
 · exact hg.output.trans h7.output
 · simp [World.setCell];omega
 · intro k hk h1 h2
   exact (Below.heap_setCell _ _ _ _ (by show k≠wk;exact h1)).trans ((hg.block k (by omega) h2).trans (h7.block k hk))
 · rcases hrow with e|e
   · exact .inl e
   · exact .inr ⟨_,e,hs7⟩
theorem wr_app2 {W7 W8:World}(h:WrSt w base wk A cap sv ev root zs)(h7:Below w.heap.size w W7){v:Value}{n n4:Nat}(hv:v=.slice A n cap)(hg:W7.grownBy W8 v.ownBlock){v4:Value}{news:List Int}(hn4:zs.length+news.length=n4)(ho:W8.ownsRow base 5 1 v4 n4 (u8s (zs++news)))(hrow:v4.ownBlock=v.ownBlock∨v4.ownBlock=some W7.heap.size)(hr:∀ z ∈ news,0≤z∧z≤255) :
  ∃ A' cap',v4=.slice A' n4 cap'∧W8.heap[wk]?=some (.cells #[sv,ev,.int .i64 root,.slice A zs.length cap] 110 (0,0))∧WrSt (W8.setCell ⟨wk,3,none⟩ v4) base wk A' cap' sv ev root (zs++news)∧Wx wk A A' w (W8.setCell ⟨wk,3,none⟩ v4):=by
 subst hv hn4
 rw [ownBlock_rowOf] at hg hrow
 exact wr_app h h7 hg ho hrow hr
theorem wr_set {W7:World}{g:Nat}(h:WrSt w base wk (some ⟨g,0,none⟩) cap sv ev root zs)(h7:Below w.heap.size w W7)(j:Nat)(b:Int)(hb:0≤b∧b≤255) :
  WrSt (W7.setCell ⟨g,j,none⟩ (.int .u8 b)) base wk (some ⟨g,0,none⟩) cap sv ev root (zs.set j b)∧Wx wk (some ⟨g,0,none⟩) (some ⟨g,0,none⟩) w (W7.setCell ⟨g,j,none⟩ (.int .u8 b)):=by
 have h2:=h.below h7
 have hgw:g≠wk:=fun e=>h.ne (by rw [e];rfl)
 have hs7:=h7.size
 refine ⟨⟨?_,?_,?_,h.hb⟩,⟨h7.os,h7.tape,h7.output,by simp [World.setCell];omega,fun k hk h1 h3=>?_,.inl rfl⟩⟩
 · rw [List.length_set]
   exact (Below.heap_setCell _ _ _ _ (by show wk≠g;exact fun e=>hgw e.symm)).trans h2.blk
 · unfold OwnV
   rw [List.length_set]
   exact OwnR.set (show OwnR W7 base 5 g zs.length cap zs from h2.own) j b
 · intro z hz
   rcases List.mem_or_eq_of_mem_set hz with h1|h1
   · exact h.rng z h1
   · subst h1;exact hb
 · exact (Below.heap_setCell _ _ _ _ (by show k≠g;exact fun e=>h3 (by rw [e];rfl))).trans (h7.block k hk)
theorem WrSt.addr (h:WrSt w base wk A cap sv ev root zs)(hz:0<zs.length):∃ g,A=some ⟨g,0,none⟩∧g<w.heap.size∧(∀ i,i<zs.length→w.cell? ⟨g,i,none⟩=some (.int .u8 (zs.getD i 0)))∧(∀ i,w.frozen? ⟨g,i,none⟩=false):=by
 have h0:=h.own
 obtain ⟨hl,h1⟩:=h.own
 rcases h1 with ⟨h1,h2⟩|⟨g,cap',cur,h1,h2⟩
 · omega
 · injection h1 with h1 _ _
   subst h1
   have hf:=OwnR.facts (show OwnR w base 5 g zs.length cap zs from h0)
   exact ⟨g,rfl,hf.2.2.1,hf.2.2.2.2.2.1,hf.2.2.2.2.2.2⟩
end
end Go.Proofs.YtcfjjocmiheiaaaDoor
