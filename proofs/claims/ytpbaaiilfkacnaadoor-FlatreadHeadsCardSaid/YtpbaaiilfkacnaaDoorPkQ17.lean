/-
  The default of a struct of a made schema, plain: it fits, it is the document's, its fields are empty; the fields of a value that fits. Conditions: those that each theorem names.
-/
import Derived.Test.YtpbaaiilfkacnaaDoorPkQ13
import Derived.Test.YtpbaaiilfkacnaaDoorPkQ15
namespace Go.Proofs.YtpbaaiilfkacnaaDoor
open Go.ChangeShapes Go.WideShapes Go.ChangeAt Go.RowKit Go.Shelf
set_option maxRecDepth 100000
set_option maxHeartbeats 16000000
structure MsgOf (base:Nat)(W:World)(m:Nat)(bp:Option Addr)(bc:Nat)(sv ev:Value)(zs:List Int)(ss:List (bK × Value))(es:List aX)(fs:List (List dT × Value))(ns:List Nat):Prop where
 msg:IsMsg base W m bp bc sv ev zs fs ns
 structs:fs.map Prod.fst=(ss.map fun q=>(cR q.1).fields)
 enums:ns=es.map fun c=>c.names.length
 few:∀ n ∈ ns,n≤1000000
theorem MsgOf.below {base:Nat}{W W':World}{m:Nat}{bp:Option Addr}{bc:Nat}{sv ev:Value}{zs:List Int}{ss:List (bK × Value)}{es:List aX}{fs:List (List dT × Value)}{ns:List Nat}(h:MsgOf base W m bp bc sv ev zs ss es fs ns)(hb:Below W.heap.size W W'):MsgOf base W' m bp bc sv ev zs ss es fs ns:=
 ⟨h.msg.below hb,h.structs,h.enums,h.few⟩
theorem aBU {v:PV}{left ml:Int}{res:Option (PV × Int)}{w w':World}{wk m mt:Nat}(hs:WState w wk m mt false left ml false)(hb:Below w.heap.size w w')(h:res=some (v,left))(h0:0≤left)(h1:0≤ml):gG res wk m mt left ml w (.returned (.bool true)) w':=
 ⟨Exw.of_below hb,.inl ⟨v,left,ml,h,⟨h0,Int.le_refl _⟩,rfl,hs.below hb,⟨h1,Int.le_refl _⟩,fun h=>h⟩⟩
theorem aDz {left ml:Int}{res:Option (PV × Int)}{w w':World}{wk m mt:Nat}(hs:WState w wk m mt false left ml false)(hb:Below w.heap.size w w')(h:res=none):gG res wk m mt left ml w (.returned (.bool false)) w':=
 ⟨Exw.of_below hb,.inr ⟨rfl,false,left,ml,false,hs.below hb,fun _=>h,fun h=>by cases h⟩⟩
theorem aCI (w:World){base m:Nat}{bp:Option Addr}{bc:Nat}{sv ev:Value}{zs:List Int}{ss:List (bK × Value)}{es:List aX}{fs:List (List dT × Value)}{ns:List Nat}(h:MsgOf base w m bp bc sv ev zs ss es fs ns){wk mt:Nat}{left ml:Int}(hw:WState w wk m mt false left ml false)(hl0:0≤left)(hml:0≤ml)
  (k r d:Nat) (at':Int) (hk:0<aP k) (hen:k=10→r<es.length) (hin:cV (aH zs) at' (aP k)=true) :
  Calls Tryd.prog 134 #[.pointer (some ⟨wk,0,none⟩),dD k r 0 at' d true] w (gG (oK es zs k r at' left) wk m mt left ml w):=by
 have hb:=(bH w.heap.size w).alloc bD (.cells #[.int .u8 k,.int .i64 r,.int .i64 0,.int .i64 at',.int .u64 d,.bool true] 182);have HB:=aA hb;have HM:=aA (h.below hb);have HW:=aA (hw.below hb);have HW0:=aA hw;have HX:=aA (cN w (.cells #[.int .u8 k,.int .i64 r,.int .i64 0,.int .i64 at',.int .u64 d,.bool true] 182));have hnb:=nO (at':=at') h.msg.bytes.1 hk;have hnz:=sI (es:=es) (ref:=(r:Int)) (left:=left) hk hin
 have HNUM:Hid (∀ W,Below (w.alloc (.cells #[.int .u8 k,.int .i64 r,.int .i64 0,.int .i64 at',.int .u64 d,.bool true] 182)).heap.size (w.alloc (.cells #[.int .u8 k,.int .i64 r,.int .i64 0,.int .i64 at',.int .u64 d,.bool true] 182)) W→Calls Tryd.prog 144 #[.pointer (some ⟨m,0,none⟩),.agg #[.int .u8 k,.int .i64 r,.int .i64 0,.int .i64 at',.int .u64 d,.bool true]] W fun e w'=>e=.returned (.int .u64 (dQ zs k at'))∧Below W.heap.size W w'):=aA (fun W hW=>lE W ((h.below hb).below hW).msg k r 0 at' d true hk);have hfo:k≠1→k≠10→dV es k (r:Int) 0 (dQ zs k at').toNat=true:=fun h1 h2=>aBi h.msg.bytes.1 hk h1 h2;have hf1:k=1→dV es k (r:Int) 0 (dQ zs k at').toNat=decide (dQ zs k at'≤1):=fun h1=>by subst h1;show decide ((dQ zs 1 at').toNat≤1)=_;exact decide_eq_decide.2 (by omega)
 have hf10:k=10→∃ hr:r<ns.length,dV es k (r:Int) 0 (dQ zs k at').toNat=decide (dQ zs k at'<((ns[r]'hr:Nat):Int)):=fun h1=>by
  have hr:=hen h1;have hl:ns.length=es.length:=by rw [h.enums,List.length_map]
  refine ⟨by omega,?_⟩;have he:ns[r]'(by omega)=(es.getD r ⟨⟨#[]⟩,[]⟩).names.length:=by simp only [h.enums,List.getElem_map,List.getD,List.getElem?_eq_getElem hr,Option.getD_some]
  subst h1;show (decide (0≤(r:Int)∧(r:Int)<es.length)&&decide ((dQ zs 10 at').toNat<(es.getD (r:Int).toNat ⟨⟨#[]⟩,[]⟩).names.length))=_;rw [fO ⟨by omega,by omega⟩,Bool.true_and,lN,he];exact decide_eq_decide.2 (by omega)
 obtain ⟨ea,ec,rfl⟩:=aJ h.msg.enums;have hcell:∀ hr:r<ns.length,∃ E,(Value.slice ea ns.length ec=.slice (some ⟨E,0,none⟩) ns.length ec)∧(w.alloc (.cells #[.int .u8 k,.int .i64 r,.int .i64 0,.int .i64 at',.int .u64 d,.bool true] 182)).cell? ⟨E,r,none⟩=some (.int .i64 (ns[r]'hr)):=fun hr=>by obtain ⟨g,cc,hv,_,_,hc⟩:=eP (l:=ns) pH 1 (fun _=>rfl) (h.below hb).msg.enums r hr;have h2:=hc 0 (by omega);rw [Nat.mul_one] at h2;injection hv with h3 h4 h5;subst h3;exact ⟨g,rfl,h2⟩
 have hnsm:∀ hr:r<ns.length,(ns[r]'hr)≤1000000:=fun hr=>h.few _ (jK hr);obtain ⟨P,hP⟩:∃ P,gG (oK es zs k r at' left) wk m mt left ml w=P:=⟨_,rfl⟩;rw [hP];have HYES:Hid (∀ W,dV es k (r:Int) 0 (dQ zs k at').toNat=true→Below w.heap.size w W→P (.returned (.bool true)) W):=aA (fun W hf hB=>by rw [←hP];exact aBU HW0.out hB (by rw [hnz,bG hf]) hl0 hml);have HNO:Hid (∀ W,dV es k (r:Int) 0 (dQ zs k at').toNat=false→Below w.heap.size w W→P (.returned (.bool false)) W):=aA (fun W hf hB=>by rw [←hP];exact aDz HW0.out hB (by rw [hnz,if_neg (by rw [hf];decide)]));clear hP hnz hb h hw hin;generalize dV es k (r:Int) 0 (dQ zs k at').toNat=ft at *;generalize dQ zs k at'=z at *;unfold dD;by_cases h1:k=1
 · have hf:=hf1 h1;subst h1;clear hf1 hf10 hfo hcell hnsm;by_cases hz:z≤1
   case' pos=>have HEND:Hid (∀ W,Below w.heap.size w W→P (.returned (.bool true)) W):=aA (fun W hB=>HYES.out W (by rw [hf];exact fO hz) hB)
   case' neg=>have HEND:Hid (∀ W,Below w.heap.size w W→P (.returned (.bool false)) W):=aA (fun W hB=>HNO.out W (by rw [hf];exact iB hz) hB)
   case' pos=>obtain ⟨bz,hbz⟩:∃ b,b=true:=⟨_,rfl⟩
   case' neg=>obtain ⟨bz,hbz⟩:∃ b,b=false:=⟨_,rfl⟩
   case' pos=>have hdz:decide (z≤1)=bz:=by rw [hbz];exact fO hz
   case' neg=>have hdz:decide (z≤1)=bz:=by rw [hbz];exact iB hz
   all_goals
    rw [←hbz] at HEND;clear hf hz hbz HYES HNO;go_enter Tryd.func134,Tryd.ntmps134;go_upto_region 1 with (fail);generalize w.alloc (.cells #[.int .u8 ((1:Nat):Int),.int .i64 r,.int .i64 0,.int .i64 at',.int .u64 d,.bool true] 182)=W0 at *;obtain ⟨_,s1,s2,s3,s4,s5,s6⟩:=bB HX.out;obtain ⟨_,s0,_,_,_⟩:=kH HW.out.walk;go_upto_region 3 with (fail);refine gL ?_;refine qM s0 s1 s2 s3 s4 s5 s6 ?_;intro hS;refine aK 0 (.pointer (some ⟨wk,0,none⟩)) ?_;simp only [td];refine aK 1 (.pointer (some ⟨wk,0,none⟩)) ?_;simp only [td];refine aK 2 (.pointer (some ⟨wk,0,none⟩)) ?_;simp only [td];refine aK 3 (.pointer (some ⟨m,0,none⟩)) ?_;simp only [td];refine aK 4 (.agg #[.int .u8 ((1:Nat):Int),.int .i64 r,.int .i64 0,.int .i64 at',.int .u64 d,.bool true]) ?_;simp only [td];refine bS 5 fun K hK=>?_;go_simp
    refine (HNUM.out W0.drew ((bH _ W0).drew)).mono ?_;rintro e Wh1 ⟨rfl,hb1⟩;have hx1:Below W0.heap.size W0 Wh1:=(bH _ W0).drew.trans hb1;refine hK.out _ _ (fZ hx1 ⟨s0,s1,s2,s3,s4,s5,s6⟩) (fun hS=>?_);refine aK 6 (.bool bz) ?_;simp only [td];refine aK 7 (.bool bz) ?_;simp only [td];refine gA (by kernel_rfl) ?_ _;refine fI ?_;try simp only [Exit.then]
    have HBE:=aA (HB.out.trans (hx1.mono HB.out.size));clear hS s0 s1 s2 s3 s4 s5 s6 hx1 hb1;go_wp2;exact HEND.out _ HBE.out
 by_cases h10:k=10
 · obtain ⟨hr,hf⟩:=hf10 h10;obtain ⟨E,hEE,hEc⟩:=hcell hr;have hns:=hnsm hr;subst h10;rw [hEE] at HM;obtain ⟨_,_,_,s8,_⟩:=aS HM.out.msg.blk;have hrl:(r:Int)<(ns.length:Int):=by omega
   have hr0:(0:Int)≤(r:Int):=by omega
   clear hf1 hf10 hfo hcell hnsm h1 hEE;generalize ns[r]=nr at *;have hcv:=IntWalk.u64_in (nr:Int) ⟨by omega,by omega⟩;by_cases hz:z<(nr:Int)
   case' pos=>have HEND:Hid (∀ W,Below w.heap.size w W→P (.returned (.bool true)) W):=aA (fun W hB=>HYES.out W (by rw [hf];exact fO hz) hB)
   case' neg=>have HEND:Hid (∀ W,Below w.heap.size w W→P (.returned (.bool false)) W):=aA (fun W hB=>HNO.out W (by rw [hf];exact iB hz) hB)
   case' pos=>obtain ⟨bz,hbz⟩:∃ b,b=true:=⟨_,rfl⟩
   case' neg=>obtain ⟨bz,hbz⟩:∃ b,b=false:=⟨_,rfl⟩
   case' pos=>have hdz:decide (z<(nr:Int))=bz:=by rw [hbz];exact fO hz
   case' neg=>have hdz:decide (z<(nr:Int))=bz:=by rw [hbz];exact iB hz
   all_goals
    rw [←hbz] at HEND;clear hf hz hbz HYES HNO;go_enter Tryd.func134,Tryd.ntmps134;go_upto_region 1 with (fail);generalize w.alloc (.cells #[.int .u8 ((10:Nat):Int),.int .i64 r,.int .i64 0,.int .i64 at',.int .u64 d,.bool true] 182)=W0 at *;obtain ⟨_,s1,s2,s3,s4,s5,s6⟩:=bB HX.out;obtain ⟨_,s0,_,_,_⟩:=kH HW.out.walk;have s7:=hEc;go_upto_region 5 with (fail);refine gL ?_;refine aFQ s0 s1 s2 s3 s4 s5 s6 s7 s8 ?_;intro hS;refine aK 0 (.pointer (some ⟨w.heap.size,0,none⟩)) ?_;simp only [td];refine aK 1 (.pointer (some ⟨w.heap.size,1,none⟩)) ?_;simp only [td];refine aK 2 (.int .i64 r) ?_;simp only [td];refine aK 3 (.bool true) ?_;simp only [td];refine aK 4 (.bool true) ?_;simp only [td];refine aK 5 (.pointer (some ⟨w.heap.size,0,none⟩)) ?_;simp only [td]
    refine aK 6 (.pointer (some ⟨w.heap.size,1,none⟩)) ?_;simp only [td];refine aK 7 (.int .i64 r) ?_;simp only [td];refine aK 8 (.pointer (some ⟨wk,0,none⟩)) ?_;simp only [td];refine aK 9 (.pointer (some ⟨wk,0,none⟩)) ?_;simp only [td];refine aK 10 (.pointer (some ⟨wk,0,none⟩)) ?_;simp only [td];refine aK 11 (.pointer (some ⟨m,0,none⟩)) ?_;simp only [td];refine aK 12 (.pointer (some ⟨m,0,none⟩)) ?_;simp only [td];refine aK 13 (.pointer (some ⟨m,2,none⟩)) ?_;simp only [td];refine aK 14 (.slice (some ⟨E,0,none⟩) ns.length ec) ?_;simp only [td];refine aK 15 (.int .i64 ns.length) ?_;simp only [td];refine aK 16 (.bool true) ?_;simp only [td];refine aK 17 (.bool true) ?_;simp only [td];refine aK 18 (.bool true) ?_;simp only [td];refine aK 19 (.pointer (some ⟨wk,0,none⟩)) ?_;simp only [td];refine aK 20 (.pointer (some ⟨wk,0,none⟩)) ?_;simp only [td]
    refine aK 21 (.pointer (some ⟨wk,0,none⟩)) ?_;simp only [td];refine aK 22 (.pointer (some ⟨m,0,none⟩)) ?_;simp only [td];refine aK 23 (.agg #[.int .u8 ((10:Nat):Int),.int .i64 r,.int .i64 0,.int .i64 at',.int .u64 d,.bool true]) ?_;simp only [td];refine aK 25 (.pointer (some ⟨wk,0,none⟩)) ?_;simp only [td];refine aK 26 (.pointer (some ⟨wk,0,none⟩)) ?_;simp only [td];refine aK 27 (.pointer (some ⟨wk,0,none⟩)) ?_;simp only [td];refine aK 28 (.pointer (some ⟨m,0,none⟩)) ?_;simp only [td];refine aK 29 (.pointer (some ⟨m,0,none⟩)) ?_;simp only [td];refine aK 30 (.pointer (some ⟨m,2,none⟩)) ?_;simp only [td];refine aK 31 (.slice (some ⟨E,0,none⟩) ns.length ec) ?_;simp only [td];refine aK 32 (.pointer (some ⟨w.heap.size,0,none⟩)) ?_;simp only [td];refine aK 33 (.pointer (some ⟨w.heap.size,1,none⟩)) ?_;simp only [td];refine aK 34 (.int .i64 r) ?_;simp only [td]
    refine aK 35 (.pointer (some ⟨E,r,none⟩)) ?_;simp only [td];refine aK 36 (.int .i64 nr) ?_;simp only [td];refine aK 37 (.int .u64 nr) ?_;simp only [td];refine bS 24 fun K hK=>?_;go_simp;refine (HNUM.out W0.drew ((bH _ W0).drew)).mono ?_;rintro e Wh1 ⟨rfl,hb1⟩;have hx1:Below W0.heap.size W0 Wh1:=(bH _ W0).drew.trans hb1;refine hK.out _ _ (aGB hx1 ⟨s0,s1,s2,s3,s4,s5,s6,s7,s8⟩) (fun hS=>?_);refine aK 38 (.bool bz) ?_;simp only [td];refine aK 39 (.bool bz) ?_;simp only [td];refine aK 40 (.bool bz) ?_;simp only [td];refine gA (by kernel_rfl) ?_ _;refine fI ?_;try simp only [Exit.then]
    have HBE:=aA (HB.out.trans (hx1.mono HB.out.size));clear hS s0 s1 s2 s3 s4 s5 s6 s7 s8 hx1 hb1;go_wp2;exact HEND.out _ HBE.out
 · have hf:=hfo h1 h10;have HEND:Hid (∀ W,Below w.heap.size w W→P (.returned (.bool true)) W):=aA (fun W hB=>HYES.out W hf hB);have t1:((k:Int)==1)=false:=by simp;omega
   have t10:((k:Int)==10)=false:=by simp;omega
   clear hf1 hf10 hfo hcell hnsm HYES HNO hf;go_enter Tryd.func134,Tryd.ntmps134;go_upto_region 1 with (fail);generalize w.alloc (.cells #[.int .u8 k,.int .i64 r,.int .i64 0,.int .i64 at',.int .u64 d,.bool true] 182)=W0 at *;obtain ⟨_,s1,s2,s3,s4,s5,s6⟩:=bB HX.out;go_wp2;exact HEND.out _ HB.out
theorem aEM {w:World}{g:Nat}{x:Value}{t:TypeId}(h:w.heap[g]?=some (.cells #[x] t (0,0))):g<w.heap.size∧w.cell? ⟨g,0,none⟩=some x∧w.frozen? ⟨g,0,none⟩=false:=
 ⟨aD h,(aU h 0).trans rfl,aB h 0⟩
def lP (w:World)(q:PV)(e:Ending)(w':World):Prop:=(∃ val,e=.returned (.tuple #[val,.bool true])∧VH (cW w.heap.size) w' q val)∧Below w.heap.size w w'
theorem aFm (q:PV):q=.mk q.num q.bytes q.kids q.has:=by cases q;rfl
theorem mF {w W:World}{q:PV}{val:Value}{R N:Nat}(hB:Below w.heap.size w W)(hR:w.heap.size≤R)(hN:R<N)(hv:VH (cW N) W q val)(x y z u:Value):VH (cW w.heap.size) (eS W R x y z u) q val∧Below w.heap.size w (eS W R x y z u):=
 ⟨hv.step (by rw [aCM];exact Nat.le_refl _) (fun k hk hS=>by
  have h1:N≤k:=by unfold cW at hS;simpa using hS
  exact ⟨by unfold cW;simp;omega,aQ W (by omega) _ _ _ _⟩),fR hB hR _ _ _ _⟩
theorem aA0 {W:World}{base n cap:Nat}{A:Option Addr}{zs:List Int}(h:W.ownsRow base 5 1 (.slice A n cap) n (bW zs))(hz:∀ z ∈ zs,0≤z∧z≤255):Bytes W A zs∧zs.length=n:=by obtain ⟨h1,h2⟩:=kB (S:=fun _=>false) h hz (fun _ _=>rfl);exact ⟨Bytes.mono (by rw [jC];exact Nat.le_refl _) (fun p x hp=>(lX hp).2) h1,h2⟩
theorem uV {w:World}{p:Option Addr}{zs:List Int}(h:Bytes w p zs):∀ z ∈ zs,0≤z∧z≤255:=fun z hz=>by obtain ⟨i,hi,rfl⟩:=List.mem_iff_getElem.1 hz;have h1:=h.1 i;rw [List.getD,iO hi,Option.getD_some] at h1;exact h1
theorem aCF:(Tryd.prog.info? 38).map (fun i=>(i.zero,i.size,i.bytes))=some (some (.agg #[.int .u64 0,.slice none 0 0,.slice none 0 0,.bool false]),4,64):=by kernel_rfl
def aBy:KV:=⟨gO,.int .u64 0,.slice none 0 0,.slice none 0 0,.bool false⟩
theorem aEJ (n:Nat):qA (List.replicate n 0)=bU (List.replicate n aBy):=by
 induction n with
 | zero=>rfl
 | succ n ih =>
  rw [List.replicate_succ,List.replicate_succ];show vM 0++qA (List.replicate n 0)=jW aBy++bU (List.replicate n aBy);rw [ih];rfl
def fC (es:List aX)(fs:List dT):Prop:=∀ f ∈ fs,(1≤f.kind∧f.kind≤13∧0≤f.lists)∧(aT f.kind f.lists=1→dV es f.kind f.ref f.lists f.dflt=true)∧(aT f.kind f.lists≠1→f.dflt=0)
theorem aA3 (f:Nat→Int→Int→PV→Bool)(xs:List dT)(ks:List PV)(h:kY f xs ks=true):∀ i (hx:i<xs.length) (hk:i<ks.length),f xs[i].kind xs[i].ref xs[i].lists ks[i]=true:=by
 induction xs generalizing ks with
 | nil=>intro i hx;exact absurd hx (Nat.not_lt_zero i)
 | cons x xs ih =>
  cases ks with
  | nil=>intro i _ hk;exact absurd hk (Nat.not_lt_zero i)
  | cons v vs =>
   have h2:(f x.kind x.ref x.lists v&&kY f xs vs)=true:=h;rw [Bool.and_eq_true] at h2;intro i hx hk;cases i with
   | zero=>exact h2.1
   | succ i=>exact ih vs h2.2 i (by simpa using hx) (by simpa using hk)
theorem aCG {ss:List cO}{es:List aX}{room i:Nat}{v:PV}(hi:i<ss.length)(hh:v.has=true)(hf:cZ ss es (room+1) 13 i 0 v=true):v.kids.length=ss[i].fields.length∧∀ k (hx:k<ss[i].fields.length) (hk:k<v.kids.length),cZ ss es room ss[i].fields[k].kind ss[i].fields[k].ref ss[i].fields[k].lists v.kids[k]=true:=by
 have hget:ss.getD ((i:Nat):Int).toNat ⟨⟨#[]⟩,[]⟩=ss[i]:=by rw [lN,List.getD,iO hi,Option.getD_some]
 rw [fL,show aT 13 0=4 from rfl,Bool.and_eq_true] at hf;have h2:(!v.has||fA ss es (room+1) i v.kids)=true:=hf.2;rw [hh] at h2;have h3:fA ss es (room+1) i v.kids=true:=h2;unfold fA at h3;rw [hget,Nat.add_sub_cancel,Bool.and_eq_true,Bool.and_eq_true,Bool.and_eq_true] at h3;exact ⟨of_decide_eq_true h3.2.2.1,aA3 _ _ _ h3.2.2.2⟩
end Go.Proofs.YtpbaaiilfkacnaaDoor
