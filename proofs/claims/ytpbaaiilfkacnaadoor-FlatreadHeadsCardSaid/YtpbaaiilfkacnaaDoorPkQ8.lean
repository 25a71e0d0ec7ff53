/-
  The document's Nothing: a field's default. Conditions: those that each theorem names.
-/
import Derived.Test.YtpbaaiilfkacnaaDoorPkQ6
import Derived.Test.YtpbaaiilfkacnaaDoorPkQ7
import Derived.Laws.MakeOwn
namespace Go.Proofs.YtpbaaiilfkacnaaDoor
open Go.RowKit
set_option maxRecDepth 100000
set_option maxHeartbeats 16000000
section
open Go.ChangeShapes Go.WideShapes Go.ChangeAt Go.Shelf
theorem dS (k:Nat)(ref lists:Int)(w:World) :
  Calls Tryd.prog 55 #[.agg #[.int .u8 k,.int .i64 ref,.int .i64 lists]] w fun e w'=>e=.returned (.int .i64 (aT k lists:Nat))∧Below w.heap.size w w':=by
 have h0:=cN w (.cells #[.int .u8 k,.int .i64 ref,.int .i64 lists] 75);have HB:=aA ((bH w.heap.size w).alloc bD (.cells #[.int .u8 k,.int .i64 ref,.int .i64 lists] 75));obtain ⟨_,x0,x1,x2,_⟩:=aS h0;obtain ⟨o,ho⟩:∃ o,aT k lists=o:=⟨_,rfl⟩;have HO:=aA ho;rw [ho];clear h0 ho;by_cases h1:0<lists
 · have HE:Hid (o=3):=aA (by rw [←HO.out];unfold aT;rw [bG h1]);obtain rfl:=HE.out;go_enter Tryd.func55,Tryd.ntmps55;go_wp2;go_ret;exact ⟨rfl,HB.out⟩
 by_cases h2:lists<0
 · have HE:Hid (o=0):=aA (by rw [←HO.out];unfold aT;rw [if_neg h1,bG h2]);obtain rfl:=HE.out;go_enter Tryd.func55,Tryd.ntmps55;go_wp2;go_ret;exact ⟨rfl,HB.out⟩
 have hz:Hid (aT k lists=if 0<aP k then 1 else if k=11∨k=12 then 2 else if k=13 then 4 else 0):=aA (by unfold aT;rw [if_neg h1,if_neg h2]);go_enter Tryd.func55,Tryd.ntmps55;go_wp2_with fail;refine (lO (k:Int) _).mono ?_;rintro e W1 ⟨rfl,rfl⟩;by_cases h3:0<aP (k:Int)
 · have HE:Hid (o=1):=aA (by rw [←HO.out,hz.out,bG h3]);obtain rfl:=HE.out;generalize aP (k:Int)=z at *;go_wp2;go_ret;exact ⟨rfl,HB.out⟩
 have hz2:Hid (o=if k=11∨k=12 then 2 else if k=13 then 4 else 0):=aA (by rw [←HO.out,hz.out,if_neg h3]);generalize aP (k:Int)=z at *;by_cases h11:k=11
 · have HE:Hid (o=2):=aA (by rw [hz2.out,bG (.inl h11)]);obtain rfl:=HE.out;subst h11;go_wp2;go_ret;exact ⟨rfl,HB.out⟩
 have t11:((k:Int)==11)=false:=by simp;omega
 by_cases h12:k=12
 · have HE:Hid (o=2):=aA (by rw [hz2.out,bG (.inr h12)]);obtain rfl:=HE.out;subst h12;go_wp2;go_ret;exact ⟨rfl,HB.out⟩
 have t12:((k:Int)==12)=false:=by simp;omega
 by_cases h13:k=13
 · have HE:Hid (o=4):=aA (by rw [hz2.out,if_neg (by omega),bG h13]);obtain rfl:=HE.out;subst h13;go_wp2;go_ret;exact ⟨rfl,HB.out⟩
 have t13:((k:Int)==13)=false:=by simp;omega
 have HE:Hid (o=0):=aA (by rw [hz2.out,if_neg (by omega),if_neg h13]);obtain rfl:=HE.out;clear h11 h12 h13;go_wp2;go_ret;exact ⟨rfl,HB.out⟩
theorem nD (k:Nat)(ref lists:Int)(hl : -9223372036854775807≤lists∧lists≤9223372036854775807)(w:World) :
  Calls Tryd.prog 79 #[.agg #[.int .u8 k,.int .i64 ref,.int .i64 lists]] w fun e w'=>e=.returned (.agg #[.int .u8 k,.int .i64 ref,.int .i64 (lists-1)])∧Below w.heap.size w w':=by
 obtain ⟨hb,hq1,hq2⟩:=bF w #[.int .u8 k,.int .i64 ref,.int .i64 lists] #[.int .u8 0,.int .i64 0,.int .i64 0] 75 75;have HB:=aA hb;have HQ1:=aA hq1;have HQ2:=aA hq2;have hw:=cU (lists-1);clear hb hq1 hq2;go_enter Tryd.func79,Tryd.ntmps79;go_upto_region 1 with (fail);generalize (w.alloc (.cells #[.int .u8 k,.int .i64 ref,.int .i64 lists] 75)).alloc (.cells #[.int .u8 0,.int .i64 0,.int .i64 0] 75)=W1 at *;have hAB:w.heap.size≠w.heap.size+1:=by omega
 have HAB:=aA hAB;generalize hBe:w.heap.size+1=B at *;have hBl:w.heap.size≤B:=by omega
 have HBL:=aA hBl;clear hBe hBl;obtain ⟨_,a0,a1,a2,f0,f1,f2⟩:=aS HQ1.out;have HQ3:=aA ((aN HQ1.out 2 (.int .i64 (lists-1))).trans rfl);have HQ4:=aA (bA HQ2.out (p:=⟨w.heap.size,2,none⟩) HAB.out (.int .i64 (lists-1)));have HB3:=aA (HB.out.setCell (p:=⟨w.heap.size,2,none⟩) bD (.int .i64 (lists-1)));go_upto_region 2 with (fail);generalize W1.setCell ⟨w.heap.size,2,none⟩ (.int .i64 (lists-1))=W2 at *;clear a0 a1 a2 f0 f1 f2 hAB;obtain ⟨_,a0,a1,a2,_⟩:=aS HQ3.out;obtain ⟨_,b0,b1,b2,f0,f1,f2⟩:=aS HQ4.out;go_wp2;refine aI (fun Wf=>Wf.heap[B]?=some (.cells #[.int .u8 k,.int .i64 ref,.int .i64 (lists-1)] 75 (0,0))∧Below w.heap.size w Wf) ⟨kI HQ4.out _ _ _,((HB3.out.setCell (p:=⟨B,0,none⟩) HBL.out _).setCell (p:=⟨B,1,none⟩) HBL.out _).setCell (p:=⟨B,2,none⟩) HBL.out _⟩ ?_;rintro Wf ⟨e1,e2⟩;obtain ⟨_,c0,c1,c2,_⟩:=aS e1
 exact dZ (v:=.agg #[.int .u8 k,.int .i64 ref,.int .i64 (lists-1)]) (by simp [results,Tryd.results79,go_sem,c0,c1,c2]) rfl ⟨rfl,e2⟩
def xE (ss:List (cO × Value))(rec:Int)(w:World)(e:Ending)(w':World):Prop:=
 Below w.heap.size w w'∧((¬(0≤rec∧rec<ss.length)∧e=.returned (.tuple #[.slice none 0 0,.bool false]))∨(∃ (i:Nat) (hi:i<ss.length),rec=i∧e=.returned (.tuple #[(ss[i]'hi).2,.bool true])))
theorem xN (w:World){base:Nat}{ss:List (cO × Value)}{es:List (aX × Value)}{sv ev:Value}(root rec:Int)(h:CRows base w ss es sv ev) :
  Calls Tryd.prog 92 #[.agg #[sv,ev,.int .i64 root],.int .i64 rec] w (xE ss rec w):=by
 obtain ⟨sa,sc,ea,ec,rfl,rfl⟩:=h.forms;have h0:=cN w (.cells #[.slice sa ss.length sc,.slice ea es.length ec,.int .i64 root] 31);have hb:=(bH w.heap.size w).alloc bD (.cells #[.slice sa ss.length sc,.slice ea es.length ec,.int .i64 root] 31);have HB:=aA hb;have HC:=aA (h.below hb);obtain ⟨_,x0,x1,x2,_⟩:=aS h0;have hfew:=iG h.structs;clear h0 hb h;by_cases hlo:rec<0
 · go_enter Tryd.func92,Tryd.ntmps92;go_wp2;exact dZ (v:=.tuple #[.slice none 0 0,.bool false]) (by simp [results,Tryd.results92,go_sem]) rfl (by unfold xE;exact ⟨HB.out,.inl ⟨by omega,rfl⟩⟩)
 obtain ⟨i,rfl⟩:=Int.eq_ofNat_of_zero_le (by omega:0≤rec);by_cases hhi:ss.length≤i
 · have t0:(ss.length:Int)≤(i:Int):=by omega
   go_enter Tryd.func92,Tryd.ntmps92;go_wp2;exact dZ (v:=.tuple #[.slice none 0 0,.bool false]) (by simp [results,Tryd.results92,go_sem]) rfl (by unfold xE;exact ⟨HB.out,.inl ⟨by omega,rfl⟩⟩)
 · have hil:i<ss.length:=by omega
   have t0:¬(ss.length:Int)≤(i:Int):=by omega
   have hib:(i:Int)<ss.length:=by omega
   have hib0:(0:Int)≤(i:Int):=by omega
   obtain ⟨g,cc,hv,hcc,hgl,hcell⟩:=eP uP 2 (fun _=>rfl) HC.out.structs i hil;obtain ⟨rfl,rfl⟩:=dG hv;have y1:(w.alloc (.cells #[.slice (some ⟨g,0,none⟩) ss.length sc,.slice ea es.length ec,.int .i64 root] 31)).cell? ⟨g,i * 2+1,none⟩=some ss[i].2:=hcell 1 (by omega);have hsl:=HC.out.fields _ (jK hil);obtain ⟨fa,fc,hf⟩:=aJ hsl;have HF:=aA hf;rw [hf] at y1;clear hcell hv hsl hf;generalize ss[i].1.fields.length=fl at *;go_enter Tryd.func92,Tryd.ntmps92;go_wp2;exact dZ (v:=.tuple #[.slice fa fl fc,.bool true]) (by simp [results,Tryd.results92,go_sem]) rfl (by unfold xE;exact ⟨HB.out,.inr ⟨i,hil,rfl,by rw [HF.out]⟩⟩)
def qO (ss:List (cO × Value)):Prop:=∀ q ∈ ss,∀ f ∈ q.1.fields,f.kind≤255 ∧ -9223372036854775800≤f.lists∧f.lists≤9223372036854775807∧f.dflt≤18446744073709551615
def KidsAt (w:World)(ks:List PV)(ka:Option Addr):Prop:=∀ i (hi:i<ks.length),∃ (kb ko:Nat) (u0 u1 u2 u3:Value),ka=some ⟨kb,ko,none⟩∧w.cell? ⟨kb,ko+i * 4,none⟩=some u0∧w.cell? ⟨kb,ko+i * 4+1,none⟩=some u1∧w.cell? ⟨kb,ko+i * 4+2,none⟩=some u2∧w.cell? ⟨kb,ko+i * 4+3,none⟩=some u3∧IsV w (ks[i]'hi) (.agg #[u0,u1,u2,u3])
theorem KidsAt.later {w W:World}{ks:List PV}{ka:Option Addr}(h:KidsAt w ks ka)(hb:Below w.heap.size w W):KidsAt W ks ka:=fun i hi=>by obtain ⟨kb,ko,u0,u1,u2,u3,h1,h2,h3,h4,h5,h6⟩:=h i hi;exact ⟨kb,ko,u0,u1,u2,u3,h1,aC hb h2,aC hb h3,aC hb h4,aC hb h5,h6.later hb⟩
def rG (ss:List cO)(es:List aX)(room k:Nat)(ref lists:Int)(q:PV):Bool := !decide (room=0)&&(!(decide (aT k lists=4) && !q.has)&&cZ ss es (room-1) k ref lists q)
def fA (ss:List cO)(es:List aX)(room:Nat)(rec:Int)(ks:List PV):Bool:=
 decide (0≤rec∧rec<ss.length)&&(!decide (room=0)&&(decide (ks.length=(ss.getD rec.toNat ⟨⟨#[]⟩,[]⟩).fields.length)&&kY (cZ ss es (room-1)) (ss.getD rec.toNat ⟨⟨#[]⟩,[]⟩).fields ks))
theorem hJ (w:World)(a b c:Array Value)(s t u:TypeId):Below w.heap.size w (((w.alloc (.cells a s)).alloc (.cells b t)).alloc (.cells c u))∧(((w.alloc (.cells a s)).alloc (.cells b t)).alloc (.cells c u)).heap[w.heap.size]?=some (.cells a s (0,0))∧(((w.alloc (.cells a s)).alloc (.cells b t)).alloc (.cells c u)).heap[w.heap.size+1]?=some (.cells b t (0,0))∧(((w.alloc (.cells a s)).alloc (.cells b t)).alloc (.cells c u)).heap[w.heap.size+1+1]?=some (.cells c u (0,0)):=by obtain ⟨h1,h2,h3⟩:=bF w a b s t;refine ⟨h1.alloc (by simp only [World.size_alloc];omega) _,cL h2 _,cL h3 _,?_⟩;have h:=cN ((w.alloc (.cells a s)).alloc (.cells b t)) (.cells c u);rw [World.size_alloc,World.size_alloc] at h;exact h
theorem fL (ss:List cO)(es:List aX)(room k:Nat)(ref lists:Int)(v:PV):cZ ss es room k ref lists v=(nS (aT k lists) v &&
  (if aT k lists=1 then dV es k ref lists v.num else if aT k lists=2 then decide (k=12)||decide (fU v.bytes 0<0)
   else if aT k lists=3 then v.kids.all (rG ss es room k ref (lists-1)) else if aT k lists=4 then !v.has||fA ss es room ref v.kids else false)):=by
 cases room with
 | zero =>
  show qH ss es none k ref lists v=_;unfold qH;congr 1
  have h1:decide (v.kids.length=0)=v.kids.all (rG ss es 0 k ref (lists-1)):=by
   cases v.kids with
   | nil=>rfl
   | cons a l=>simp [rG]
  have h2:fA ss es 0 ref v.kids=false:=by unfold fA;simp
  rw [h2,←h1]
 | succ r =>
  have h2:fA ss es (r+1) ref v.kids=(decide (0≤ref∧ref<ss.length)&&(decide (v.kids.length=(ss.getD ref.toNat ⟨⟨#[]⟩,[]⟩).fields.length)&&kY (cZ ss es r) (ss.getD ref.toNat ⟨⟨#[]⟩,[]⟩).fields v.kids)):=by unfold fA;simp
  show qH ss es (some (cZ ss es r)) k ref lists v=_;unfold qH;rw [h2];rfl
theorem aCN (a:Option Addr)(cap n:Nat)(zs:List Int)(w:World)(hT:Tabs w)(hz:Bytes w a zs)(hn:zs.length=n)(hl:(n:Int)≤9223372036854775807)(hcap:n≤cap) :
  Calls Tryd.prog 82 #[.slice a n cap] w fun e w'=>e=.returned (.bool (decide (fU zs 0<0)))∧Below w.heap.size w w':=by
 have HU:=aA (aBX a cap n zs w hT hz hn hl hcap);have hr:=aBk zs 0;generalize fU zs 0=z at *;clear hT hz hn hl hcap;go_enter Tryd.func82,Tryd.ntmps82;go_wp2_with fail;refine HU.out.mono ?_;rintro e W1 ⟨rfl,hb⟩;have HB:=aA hb;clear hb;go_wp2;go_ret;exact ⟨rfl,HB.out⟩
theorem jR {w:World}{base g n size:Nat}{e:TypeId}{cs:Array Value}(hg:w.heap[g]?=some (.cells cs e (0,0)))(hb:base≤g)(hm:n≤maxLen)(hs:cs.size=n * size):w.ownsRow base e size (.slice (some ⟨g,0,none⟩) n n) n cs.toList:=
 ⟨by simpa using hs,.inr ⟨g,n,cs,rfl,hb,hg,Nat.le_refl _,hm,hs,List.take_of_length_le (by rw [Array.length_toList,hs];exact Nat.le_refl _)⟩⟩
theorem zM (w:World)(a b c d:Array Value)(r s t u:TypeId):Below w.heap.size w ((((w.alloc (.cells a r)).alloc (.cells b s)).alloc (.cells c t)).alloc (.cells d u)) ∧
  ((((w.alloc (.cells a r)).alloc (.cells b s)).alloc (.cells c t)).alloc (.cells d u)).heap[w.heap.size]?=some (.cells a r (0,0)) ∧
  ((((w.alloc (.cells a r)).alloc (.cells b s)).alloc (.cells c t)).alloc (.cells d u)).heap[w.heap.size+1]?=some (.cells b s (0,0)) ∧
  ((((w.alloc (.cells a r)).alloc (.cells b s)).alloc (.cells c t)).alloc (.cells d u)).heap[w.heap.size+2]?=some (.cells c t (0,0)) ∧
  ((((w.alloc (.cells a r)).alloc (.cells b s)).alloc (.cells c t)).alloc (.cells d u)).heap[w.heap.size+3]?=some (.cells d u (0,0)):=by
 obtain ⟨h1,h2,h3⟩:=bF w a b r s;obtain ⟨h4,h5,h6⟩:=bF ((w.alloc (.cells a r)).alloc (.cells b s)) c d t u;have e:((w.alloc (.cells a r)).alloc (.cells b s)).heap.size=w.heap.size+2:=by simp
 rw [e] at h5 h6;exact ⟨h1.trans (h4.mono h1.size),aE h2 h4 (aD h2),aE h3 h4 (aD h3),h5,h6⟩
theorem kO (w:World)(a b c d e:Array Value)(r s t u x:TypeId):Below w.heap.size w (((((w.alloc (.cells a r)).alloc (.cells b s)).alloc (.cells c t)).alloc (.cells d u)).alloc (.cells e x)) ∧
  (((((w.alloc (.cells a r)).alloc (.cells b s)).alloc (.cells c t)).alloc (.cells d u)).alloc (.cells e x)).heap[w.heap.size]?=some (.cells a r (0,0)) ∧
  (((((w.alloc (.cells a r)).alloc (.cells b s)).alloc (.cells c t)).alloc (.cells d u)).alloc (.cells e x)).heap[w.heap.size+1]?=some (.cells b s (0,0)) ∧
  (((((w.alloc (.cells a r)).alloc (.cells b s)).alloc (.cells c t)).alloc (.cells d u)).alloc (.cells e x)).heap[w.heap.size+1+1]?=some (.cells c t (0,0)) ∧
  (((((w.alloc (.cells a r)).alloc (.cells b s)).alloc (.cells c t)).alloc (.cells d u)).alloc (.cells e x)).heap[w.heap.size+1+1+1]?=some (.cells d u (0,0)) ∧
  (((((w.alloc (.cells a r)).alloc (.cells b s)).alloc (.cells c t)).alloc (.cells d u)).alloc (.cells e x)).heap[w.heap.size+1+1+1+1]?=some (.cells e x (0,0)) ∧
  w.heap.size+1+1+1+1+1=(((((w.alloc (.cells a r)).alloc (.cells b s)).alloc (.cells c t)).alloc (.cells d u)).alloc (.cells e x)).heap.size:=by
 obtain ⟨h0,h1,h2,h3,h4⟩:=zM w a b c d r s t u;have hs:((((w.alloc (.cells a r)).alloc (.cells b s)).alloc (.cells c t)).alloc (.cells d u)).heap.size=w.heap.size+1+1+1+1:=by simp
 have h5:=cN ((((w.alloc (.cells a r)).alloc (.cells b s)).alloc (.cells c t)).alloc (.cells d u)) (.cells e x);rw [hs] at h5;exact ⟨h0.alloc h0.size _,cL h1 _,cL h2 _,cL h3 _,cL h4 _,h5,by simp⟩
def eS (w:World)(g:Nat)(x y z u:Value):World:=(((w.setCell ⟨g,0,none⟩ x).setCell ⟨g,1,none⟩ y).setCell ⟨g,2,none⟩ z).setCell ⟨g,3,none⟩ u
theorem aCM (w:World)(g:Nat)(x y z u:Value):(eS w g x y z u).heap.size=w.heap.size:=by simp [eS,World.setCell]
def dY (n:Nat):PV:=.mk n [] [] false
def aEj (f:dT):Nat:=if aT f.kind f.lists=1 then f.dflt else 0
def vM (n:Nat):List Value:=[.int .u64 n,.slice none 0 0,.slice none 0 0,.bool false]
def qA (l:List Nat):List Value:=l.flatMap vM
theorem aE5 (l:List Nat)(k:Nat)(hk:k<l.length)(j:Nat)(hj:j<4):(qA l)[k * 4+j]?=(vM l[k])[j]?:=pU vM 4 (fun _=>rfl) l k hk j hj
theorem yK (l:List Nat):(qA l).length=l.length * 4:=by
 induction l with
 | nil=>rfl
 | cons a r ih =>
  have e:qA (a::r)=vM a++qA r:=rfl;have e4:(vM a).length=4:=rfl;rw [e,List.length_append,ih,e4,List.length_cons];omega
theorem aBK (w:World)(n:Nat)(h:n≤18446744073709551615):IsV w (dY n) (.agg #[.int .u64 n,.slice none 0 0,.slice none 0 0,.bool false]):=
 .mk n [] [] false none none 0 0 0 0 (fun _=>.bool false) (fun _=>.bool false) (fun _=>.bool false) (fun _=>.bool false) h (kE w) bD (by decide) bD (by decide) (fun h=>absurd rfl h) (fun i hi=>absurd hi (Nat.not_lt_zero i)) (fun i hi=>absurd hi (Nat.not_lt_zero i))
theorem aD3:(Tryd.prog.info? 38).map (fun i=>(i.zero,i.size,i.bytes))=some (some (.agg #[.int .u64 0,.slice none 0 0,.slice none 0 0,.bool false]),4,64):=by kernel_rfl
theorem aCm (n:Nat):madeCells (Value.agg #[.int .u64 0,.slice none 0 0,.slice none 0 0,.bool false]).cells (n * 4)=(qA (List.replicate n 0)).toArray:=by
 apply Array.ext'
 apply List.ext_getElem?
 intro k;have hrow:(qA (List.replicate n 0)).length=n * 4:=by rw [yK,List.length_replicate]
 simp only [madeCells,Array.toList_map,Array.toList_range,List.getElem?_map];by_cases hk:k<n * 4
 · have h1:(qA (List.replicate n 0))[(k / 4) * 4+k % 4]?=_:=aE5 (List.replicate n 0) (k / 4) (by rw [List.length_replicate];omega) (k % 4) (by omega);rw [show (k / 4) * 4+k % 4=k by omega,List.getElem_replicate] at h1;rw [List.getElem?_range hk,Option.map_some,h1];show some ((#[Value.int .u64 0,.slice none 0 0,.slice none 0 0,.bool false])[k % 4]!)=_;have h4:k % 4=0∨k % 4=1∨k % 4=2∨k % 4=3:=by omega
   rcases h4 with h|h|h|h<;>rw [h]<;>rfl
 · rw [List.getElem?_eq_none (by rw [List.length_range];omega),List.getElem?_eq_none (by rw [hrow];omega)];rfl
theorem aBY (n:Nat)(hn:n≤1000000)(W:World):(Instr.makeSlice 36 (.int .i64 (n:Int)) (.int .i64 (n:Int))).run Tryd.prog W=.ok (.slice (some ⟨W.heap.size,0,none⟩) n n) (W.alloc (.cells (qA (List.replicate n 0)).toArray 38)):=by obtain ⟨i,hi,hz,hs,hb⟩:=info_parts aD3;have h:=run_make W 36 38 i (.agg #[.int .u64 0,.slice none 0 0,.slice none 0 0,.bool false]) Tryd.underlying36 hi hz .i64 .i64 n n (by omega) (Int.le_refl _) (by rw [hb];omega) (by omega);rw [hs,lN,aCm] at h;exact h
theorem take_set (fs:List dT)(j d:Nat)(hj:j<fs.length):((fs.take j).map aEj++List.replicate (fs.length-j) 0).set j d=(fs.take j).map aEj++d::List.replicate (fs.length-(j+1)) 0:=by
 have hl:((fs.take j).map aEj).length=j:=by rw [List.length_map,List.length_take];omega
 rw [List.set_append_right _ _ (by rw [hl];exact Nat.le_refl _),hl,Nat.sub_self,show fs.length-j=(fs.length-(j+1))+1 by omega,List.replicate_succ,List.set_cons_zero]
end
def eB (f:Nat→Int→Option (PV × Int))(l:Int):Nat→Option (List PV × Int)
 | 0=>some ([],l)
 | j+1=>match eB f l j with
  | none=>none
  | some (vs,l1)=>match f j l1 with
   | none=>none
   | some (v,l2)=>some (vs++[v],l2)
def oK (es:List aX)(zs:List Int)(k:Nat)(ref at' left:Int):Option (PV × Int):=
 if cV (aH zs) at' (aP k)=true then
  (if dV es k ref 0 (if eT k=true then cG (aY zs at'.toNat (aP k).toNat) (aP k) else aY zs at'.toNat (aP k).toNat).toNat=true then
   some (dY (if eT k=true then cG (aY zs at'.toNat (aP k).toNat) (aP k) else aY zs at'.toNat (aP k).toNat).toNat,left) else none)
 else none
def dH (zs:List Int)(k:Nat)(to left:Int):Option (PV × Int):=
 if cV (aH zs) to 4=true then
  (if cV (aH zs) to (4+aY zs to.toNat 4+(if k=11 then 1 else 0))=true∧0≤left-(4+aY zs to.toNat 4+(if k=11 then 1 else 0)) ∧
      (k=11→zs.getD (to.toNat+4+(aY zs to.toNat 4).toNat) 0=0∧fU (dF zs (to.toNat+4) (aY zs to.toNat 4).toNat) 0<0)
   then some (.mk 0 (dF zs (to.toNat+4) (aY zs to.toNat 4).toNat) [] false,left-(4+aY zs to.toNat 4+(if k=11 then 1 else 0))) else none)
 else none
def bN (k:Nat)(lists:Int):Int:=if cK k lists=true then aP k else 4
abbrev jL:=Nat→Int→Int→Int→Int→Option (PV × Int)
def bM (zs:List Int)(nx:Option jL)(k:Nat)(ref lists to left:Int):Option (PV × Int):=
 if cV (aH zs) to 4=true then
  (if cV (aH zs) to (4+aY zs to.toNat 4 * bN k lists)=true∧0≤left-(4+aY zs to.toNat 4 * bN k lists) then
   (match nx with
    | none=>if aY zs to.toNat 4=0 then some (.mk 0 [] [] false,left-(4+aY zs to.toNat 4 * bN k lists)) else none
    | some f=>match eB (fun j l=>f k ref lists (to+4+j * bN k lists) l) (left-(4+aY zs to.toNat 4 * bN k lists)) (aY zs to.toNat 4).toNat with
     | none=>none
     | some (ks,l)=>some (.mk 0 [] ks false,l)) else none)
 else none
def jO (zs:List Int)(f:jL)(fs:List dT)(to:Int)(t:mO)(j:Nat)(l:Int):Option (PV × Int):=
 match fs[j]? with
 | none=>none
 | some x =>
  if eC zs t j=0 then some (dY x.dflt,l)
  else if eC zs t j<4∨t.own<eC zs t j+gK x.kind x.lists then none
  else f x.kind x.ref x.lists (to+eC zs t j) l
def kJ (ss:List cO)(ref:Int):cO:=ss.getD ref.toNat ⟨⟨#[]⟩,[]⟩
def cC (ss:List cO)(zs:List Int)(nx:Option jL)(ref to left:Int):Option (PV × Int):=
 match gX zs to with
 | none=>none
 | some t=>match nx with
  | none=>none
  | some f =>
   if left-(t.size+t.own)<0 then none else
   match eB (jO zs f (kJ ss ref).fields to t) (left-(t.size+t.own)) (kJ ss ref).fields.length with
   | none=>none
   | some (ks,l)=>some (.mk 0 [] ks true,l)
def cM (zs:List Int)(at':Int)(g:Int→Option (PV × Int)):Option (PV × Int):=
 match fM zs at' with
 | none=>none
 | some to=>g to
def mC (ss:List cO)(es:List aX)(zs:List Int)(nx:Option jL)(k:Nat)(ref lists at' left:Int):Option (PV × Int):=
 if aT k lists=1 then oK es zs k ref at' left
 else if aT k lists=2 then cM zs at' fun to=>dH zs k to left
 else if aT k lists=3 then cM zs at' fun to=>bM zs nx k ref (lists-1) to left
 else if aT k lists=4 then cM zs at' fun to=>cC ss zs nx ref to left
 else none
def bV (ss:List cO)(es:List aX)(zs:List Int):Nat→jL
 | 0=>mC ss es zs none
 | r+1=>mC ss es zs (some (bV ss es zs r))
def bL (ss:List cO)(es:List aX)(zs:List Int):Nat→Option jL
 | 0=>none
 | r+1=>some (bV ss es zs r)
theorem iE (ss:List cO)(es:List aX)(zs:List Int)(room k:Nat)(ref lists at' left:Int):bV ss es zs room k ref lists at' left=mC ss es zs (bL ss es zs room) k ref lists at' left:=by cases room<;>rfl
theorem fD {f:Nat→Int→Option (PV × Int)}{l:Int}:∀ {n j:Nat},j≤n→eB f l j=none→eB f l n=none
 | 0,j,h,hn=>by
  obtain rfl:j=0:=by omega
  exact hn
 | n+1,j,h,hn=>by
  rcases Nat.lt_or_ge n j with h1|h1
  · obtain rfl:j=n+1:=by omega
    exact hn
  · show (match eB f l n with|none=>none|some (vs,l1)=>match f n l1 with|none=>none|some (v,l2)=>some (vs++[v],l2))=none;rw [fD h1 hn]
theorem bT {f:Nat→Int→Option (PV × Int)}{l l1:Int}{j:Nat}{vs:List PV}(h:eB f l j=some (vs,l1)):eB f l (j+1)=match f j l1 with|none=>none|some (v,l2)=>some (vs++[v],l2):=by show (match eB f l j with|none=>none|some (vs,l1)=>match f j l1 with|none=>none|some (v,l2)=>some (vs++[v],l2))=_;rw [h]
theorem jH {f:Nat→Int→Option (PV × Int)}{l:Int}:∀ {n:Nat} {vs:List PV} {l1:Int},eB f l n=some (vs,l1)→vs.length=n
 | 0,vs,l1,h=>by injection h with h;injection h with h _;subst h;rfl
 | n+1,vs,l1,h=>by
  cases h1:eB f l n with
  | none=>rw [fD (Nat.le_succ n) h1] at h;cases h
  | some p =>
   obtain ⟨us,l2⟩:=p;rw [bT h1] at h;cases h2:f n l2 with
   | none=>rw [h2] at h;cases h
   | some q =>
    obtain ⟨v,l3⟩:=q;rw [h2] at h;injection h with h;injection h with h _;subst h;rw [List.length_append,jH h1];rfl
theorem wA {f:Nat→Int→Option (PV × Int)}{l:Int}:∀ {n:Nat} {vs:List PV} {l1:Int},eB f l n=some (vs,l1)→∀ j (hj:j<vs.length),∃ l2 l3,f j l2=some (vs[j],l3)
 | 0,vs,l1,h,j,hj=>by injection h with h;injection h with h _;subst h;exact absurd hj (Nat.not_lt_zero _)
 | n+1,vs,l1,h,j,hj=>by
  cases h1:eB f l n with
  | none=>rw [fD (Nat.le_succ n) h1] at h;cases h
  | some p =>
   obtain ⟨us,l2⟩:=p;rw [bT h1] at h;cases h2:f n l2 with
   | none=>rw [h2] at h;cases h
   | some q =>
    obtain ⟨v,l3⟩:=q;rw [h2] at h;injection h with h;injection h with h _;subst h;have hl:=jH h1;rcases Nat.lt_or_ge j us.length with h3|h3
    · obtain ⟨a,b,hab⟩:=wA h1 j h3;exact ⟨a,b,by rw [hab,List.getElem_append_left h3]⟩
    · obtain rfl:j=n:=by rw [List.length_append] at hj;simp at hj;omega
      exact ⟨l2,l3,by rw [h2,List.getElem_append_right h3];simp [hl]⟩
section
open Go.ChangeShapes Go.WideShapes Go.ChangeAt Go.Shelf
theorem aDR (k:Nat)(h1:1≤k)(h2:k≤13):(k=13∧aT k 0=4∧cK k 0=false)∨((k=11∨k=12)∧aT k 0=2∧cK k 0=false)∨(k≤10∧aT k 0=1∧cK k 0=true):=by
 have:k=1∨k=2∨k=3∨k=4∨k=5∨k=6∨k=7∨k=8∨k=9∨k=10∨k=11∨k=12∨k=13:=by omega
 rcases this with rfl|rfl|rfl|rfl|rfl|rfl|rfl|rfl|rfl|rfl|rfl|rfl|rfl<;>simp [aT,cK,aP]
theorem nF (w:World)(name:ByteArray)(k:Nat)(ref lists:Int)(d:Nat) :
  Calls Tryd.prog 56 #[.agg #[.string name,.int .u8 k,.int .i64 ref,.int .i64 lists,.int .u64 d]] w fun e w'=>e=.returned (.agg #[.int .u64 d,.slice none 0 0,.slice none 0 0,.bool false])∧Below w.heap.size w w':=by
 obtain ⟨hb,hq1,hq2⟩:=bF w #[.string name,.int .u8 k,.int .i64 ref,.int .i64 lists,.int .u64 d] #[.int .u64 0,.slice none 0 0,.slice none 0 0,.bool false] 77 38;have HB:=aA hb;have HQ2:=aA hq2;obtain ⟨_,y0,y1,y2,y3,y4,_⟩:=lL hq1;obtain ⟨_,z0,z1,z2,z3⟩:=aF hq2;have z4:=aB hq2 0;have z5:=aB hq2 1;have z6:=aB hq2 2;have z7:=aB hq2 3;clear hb hq1 hq2;go_enter Tryd.func56,Tryd.ntmps56;go_upto_region 1 with (fail);generalize (w.alloc (.cells #[.string name,.int .u8 k,.int .i64 ref,.int .i64 lists,.int .u64 d] 77)).alloc (.cells #[.int .u64 0,.slice none 0 0,.slice none 0 0,.bool false] 38)=W0 at *;go_wp2
 refine aI (fun Wf=>Wf.heap[w.heap.size+1]?=some (.cells #[.int .u64 d,.slice none 0 0,.slice none 0 0,.bool false] 38 (0,0))∧Below w.heap.size w Wf) ⟨?_,?_⟩ ?_
 · exact aO HQ2.out _ _ _ _
 · exact fR HB.out (Nat.le_succ _) _ _ _ _
 · rintro Wf ⟨e1,e2⟩;obtain ⟨_,d0,d1,d2,d3⟩:=aF e1;exact dZ (v:=.agg #[.int .u64 d,.slice none 0 0,.slice none 0 0,.bool false]) (by simp [results,Tryd.results56,go_sem,d0,d1,d2,d3]) rfl ⟨rfl,e2⟩
end
end Go.Proofs.YtpbaaiilfkacnaaDoor
