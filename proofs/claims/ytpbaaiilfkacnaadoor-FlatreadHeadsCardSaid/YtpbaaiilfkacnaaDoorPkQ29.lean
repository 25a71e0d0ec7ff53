/-
  The hand's value and Value: of every type of a made schema they make a value that fits. Conditions: those that each theorem names.
-/
import Derived.Test.YtpbaaiilfkacnaaDoorPkQ22
import Derived.Test.YtpbaaiilfkacnaaDoorPkQ23
namespace Go.Proofs.YtpbaaiilfkacnaaDoor
open Go.ChangeShapes Go.WideShapes Go.ChangeAt Go.RowKit Go.Shelf
set_option maxRecDepth 100000
set_option maxHeartbeats 16000000
theorem fP (pl:List Int)(k i:Nat)(p:Int)(hk:k<pl.length):(pl.set k p).getD i 0=if k=i then p else pl.getD i 0:=by
 simp only [List.getD,List.getElem?_set];by_cases h:k=i
 · subst h;simp [hk]
 · simp [h]
structure Spans (pl:List Int)(W:Nat→Int)(S:Nat→Prop)(lo cur:Int)(al cv:Prop):Prop where
 inn:∀ i,S i→i<pl.length∧lo≤pl.getD i 0∧pl.getD i 0+W i≤cur
 apart:∀ i j,S i→S j→i≠j→pl.getD i 0+W i≤pl.getD j 0∨pl.getD j 0+W j≤pl.getD i 0
 mult:al→∀ i,S i→pl.getD i 0 % W i=0
 cover:cv→∀ c,lo≤c→c<cur→∃ i,S i∧pl.getD i 0≤c∧c<pl.getD i 0+W i
theorem Spans.put {pl:List Int}{W:Nat→Int}{S:Nat→Prop}{lo cur:Int}{al cv:Prop}(h:Spans pl W S lo cur al cv)(k:Nat)(p:Int)(hk:k<pl.length)(hS:¬S k)(hp:cur≤p)(hlo:lo≤p)(hw:0≤W k)(hm:al→p % W k=0)(hc:cv→p=cur) :
  Spans (pl.set k p) W (fun i=>S i∨i=k) lo (p+W k) al cv:=by
 have hne:∀ i,S i→¬k=i:=fun i hi e=>hS (e▸hi);refine ⟨?_,?_,?_,?_⟩
 · intro i hi;rw [fP pl k i p hk,List.length_set];rcases hi with hi|rfl
   · rw [if_neg (hne i hi)];have:=h.inn i hi;exact ⟨this.1,this.2.1,by omega⟩
   · rw [bG rfl];exact ⟨hk,hlo,Int.le_refl _⟩
 · intro i j hi hj hij;rw [fP pl k i p hk,fP pl k j p hk];rcases hi with hi|rfl
   · rw [if_neg (hne i hi)];rcases hj with hj|rfl
     · rw [if_neg (hne j hj)];exact h.apart i j hi hj hij
     · rw [bG rfl];have:=(h.inn i hi).2.2;exact .inl (by omega)
   · rw [bG rfl];rcases hj with hj|rfl
     · rw [if_neg (hne j hj)];have:=(h.inn j hj).2.2;exact .inr (by omega)
     · exact absurd rfl hij
 · intro ha i hi;rw [fP pl k i p hk];rcases hi with hi|rfl
   · rw [if_neg (hne i hi)];exact h.mult ha i hi
   · rw [bG rfl];exact hm ha
 · intro hv c h1 h2;have hpc:=hc hv;by_cases hcc:c<cur
   · obtain ⟨i,hi,h3,h4⟩:=h.cover hv c h1 hcc;refine ⟨i,.inl hi,?_⟩;rw [fP pl k i p hk,if_neg (hne i hi)];exact ⟨h3,h4⟩
   · refine ⟨k,.inr rfl,?_⟩;rw [fP pl k k p hk,bG rfl];omega
theorem Spans.same {pl:List Int}{W:Nat→Int}{S S':Nat→Prop}{lo cur:Int}{al cv:Prop}(h:Spans pl W S lo cur al cv)(hS:∀ i,S' i ↔ S i):Spans pl W S' lo cur al cv:=by refine ⟨fun i hi=>h.inn i ((hS i).1 hi),fun i j hi hj=>h.apart i j ((hS i).1 hi) ((hS j).1 hj),fun ha i hi=>h.mult ha i ((hS i).1 hi),fun hv c h1 h2=>?_⟩;obtain ⟨i,hi,h3⟩:=h.cover hv c h1 h2;exact ⟨i,(hS i).2 hi,h3⟩
theorem aBQ (pl:List Int)(W:Nat→Int)(S:Nat→Prop)(lo:Int)(al cv:Prop)(hS:∀ i,¬S i):Spans pl W S lo lo al cv:=
 ⟨fun i hi=>absurd hi (hS i),fun i _ hi=>absurd hi (hS i),fun _ i hi=>absurd hi (hS i),fun _ c h1 h2=>absurd h1 (by omega)⟩
/-! ### in words -/
def aDr (fs:List SFld)(i:Nat):SFld:=fs.getD i aDn
/-! ### in a row -/
def xA (fs:List SFld)(i:Nat):Int:=gW (aDr fs i)
/-! ### in a table -/
def aFT (th:List Bool)(i:Nat):Prop:=th.getD i false=true
theorem aB1 {n z:Int}(hz:z=8∨z=4∨z=2∨z=1):hY n z % z=0:=by unfold hY;rcases hz with rfl|rfl|rfl|rfl<;>omega
theorem rM {z:Int}(hz:z=8∨z=4∨z=2∨z=1)(fs:List SFld)(th:List Bool)(s:lQ)(S:Nat→Prop)(hl:s.pl.length=fs.length)(h:Spans s.pl (xA fs) S 4 s.size True False)(h4:4≤s.size)(hS:∀ i,S i→xA fs i≠z) :
  ∀ k,k≤fs.length→Spans (eA z fs th s k).pl (xA fs) (fun i=>S i∨(i<k∧aFT th i∧xA fs i=z)) 4 (eA z fs th s k).size True False∧(eA z fs th s k).pl.length=fs.length∧4≤(eA z fs th s k).size
 | 0,_=>⟨h.same (fun i=>⟨fun hi=>by rcases hi with hi|hi;exact hi;exact absurd hi.1 (Nat.not_lt_zero _),fun hi=>.inl hi⟩),hl,h4⟩
 | k+1,hk=>by
  obtain ⟨ih,ihl,ih4⟩:=rM hz fs th s S hl h h4 hS k (by omega);have hm:=sA hz (show 0≤(eA z fs th s k).size by omega);unfold eA jV;split
  · rename_i he
    have he':xA fs k=z:=he.2;refine ⟨?_,by simp only [List.length_set];exact ihl,by simp only;omega⟩;have hp:=ih.put k (hY (eA z fs th s k).size z) (by omega) (fun hc=>by rcases hc with hc|hc;exact hS k hc he';exact absurd hc.1 (Nat.lt_irrefl _)) hm.1 (by omega) (by omega) (fun _=>by rw [he'];exact aB1 hz) (fun hf=>hf.elim);rw [he'] at hp;refine hp.same (fun i=>⟨fun hi=>?_,fun hi=>?_⟩)
    · rcases hi with hi|⟨hi,h2⟩
      · exact .inl (.inl hi)
      · by_cases e:i=k
        · exact .inr e
        · exact .inl (.inr ⟨by omega,h2⟩)
    · rcases hi with (hi|⟨hi,h2⟩)|rfl
      · exact .inl hi
      · exact .inr ⟨by omega,h2⟩
      · exact .inr ⟨by omega,he.1,he'⟩
  · rename_i he
    refine ⟨ih.same (fun i=>⟨fun hi=>?_,fun hi=>?_⟩),ihl,ih4⟩
    · rcases hi with hi|⟨hi,h2⟩
      · exact .inl hi
      · by_cases e:i=k
        · subst e;exact absurd h2 he
        · exact .inr ⟨by omega,h2⟩
    · rcases hi with hi|⟨hi,h2⟩
      · exact .inl hi
      · exact .inr ⟨by omega,h2⟩
theorem aEA (f:SFld):∃ y,y<4∧gW f=inlinesL.getD y 0:=by
 unfold gW;split
 · rename_i h
   have hk:0<aP f.kind:=by unfold dE at h;simp only [Bool.and_eq_true,decide_eq_true_eq] at h;exact h.2
   generalize (f.kind:Int)=k at *;unfold aP at *;split
   · exact ⟨3,by omega,rfl⟩
   split
   · exact ⟨2,by omega,rfl⟩
   split
   · exact ⟨1,by omega,rfl⟩
   split
   · exact ⟨0,by omega,rfl⟩
   · rename_i q1 q2 q3 q4
     rw [if_neg q1,if_neg q2,if_neg q3,if_neg q4] at hk;exact absurd hk (by decide)
 · exact ⟨1,by omega,rfl⟩
theorem sT (z:Nat)(h:z<4):(z=0∧inlinesL.getD z 0=8)∨(z=1∧inlinesL.getD z 0=4)∨(z=2∧inlinesL.getD z 0=2)∨(z=3∧inlinesL.getD z 0=1):=by
 have:z=0∨z=1∨z=2∨z=3:=by omega
 rcases this with rfl|rfl|rfl|rfl<;>decide
theorem aBP (fs:List SFld)(th:List Bool):∀ z,z≤4→Spans (bP fs th z).pl (xA fs) (fun i=>i<fs.length∧aFT th i∧∃ y,y<z∧xA fs i=inlinesL.getD y 0) 4 (bP fs th z).size True False∧(bP fs th z).pl.length=fs.length∧4≤(bP fs th z).size
 | 0,_=>⟨aBQ _ _ _ _ _ _ (fun i hi=>by obtain ⟨_,_,y,hy,_⟩:=hi;omega),by simp [bP],Int.le_refl _⟩
 | z+1,hz=>by
  obtain ⟨ih,ihl,ih4⟩:=aBP fs th z (by omega);obtain ⟨h1,h2,h3⟩:=rM (kS z (by omega)) fs th (bP fs th z) _ ihl ih ih4 (fun i hi e=>by obtain ⟨_,_,y,hy,hf⟩:=hi;have hzz:=sT z (by omega);have hyy:=sT y (by omega);omega) fs.length bD;unfold bP;refine ⟨h1.same (fun i=>⟨fun hi=>?_,fun hi=>?_⟩),h2,h3⟩
  · obtain ⟨hi,ht,y,hy,hf⟩:=hi;by_cases e:y=z
    · exact .inr ⟨hi,ht,e▸hf⟩
    · exact .inl ⟨hi,ht,y,by omega,hf⟩
  · rcases hi with ⟨hi,ht,y,hy,hf⟩|⟨hi,ht,hf⟩
    · exact ⟨hi,ht,y,by omega,hf⟩
    · exact ⟨hi,ht,z,by omega,hf⟩
theorem aCa (fs:List SFld)(th:List Bool):Spans (bP fs th 4).pl (xA fs) (fun i=>i<fs.length∧aFT th i) 4 (bP fs th 4).size True False∧4≤(bP fs th 4).size:=by obtain ⟨h,_,h4⟩:=aBP fs th 4 bD;exact ⟨h.same (fun i=>⟨fun hi=>⟨hi.1,hi.2,aEA _⟩,fun hi=>⟨hi.1,hi.2.1⟩⟩),h4⟩
/-! ### what is taken -/
theorem aDt:(Tryd.prog.info? 3).map (fun i=>(i.zero,i.size,i.bytes))=some (some (.int .i64 0),1,8):=by kernel_rfl
theorem yB (n:Nat):madeCells (Value.int .i64 0).cells (n * 1)=(eO (List.replicate n 0)).toArray:=by
 rw [aCV];apply Array.ext'
 apply List.ext_getElem?
 intro k;simp only [madeCells,Array.toList_map,Array.toList_range,Nat.mul_one,List.getElem?_map,List.getElem?_replicate];by_cases hk:k<n
 · rw [List.getElem?_range hk,bG hk,Option.map_some];show some (#[Value.int .i64 0][k % 1]!)=_;rw [Nat.mod_one];rfl
 · rw [List.getElem?_eq_none (by simp;omega),if_neg hk];rfl
theorem aCE (n:Nat)(hn:n≤1000000)(W:World):(Instr.makeSlice 26 (.int .i64 (n:Int)) (.int .i64 (n:Int))).run Tryd.prog W=.ok (.slice (some ⟨W.heap.size,0,none⟩) n n) (W.alloc (.cells (eO (List.replicate n 0)).toArray 3)):=by obtain ⟨i,hi,hz,hs,hb⟩:=info_parts aDt;have h:=run_make W 26 3 i (.int .i64 0) Tryd.underlying26 hi hz .i64 .i64 n n (by omega) (Int.le_refl _) (by rw [hb];omega) (by omega);rw [hs,lN,yB] at h;exact h
structure RTM (w:World)(nm fv:Value)(pl:List Int)(W:World):Prop where
 bel:Below w.heap.size w W
 rc:W.heap[w.heap.size]?=some (.cells #[nm,fv] 60 (0,0))
 row:W.heap[w.heap.size+1]?=some (.cells (eO pl).toArray 3 (0,0))
theorem RTM.later {w W W':World}{nm fv:Value}{pl:List Int}(h:RTM w nm fv pl W)(hb:Below W.heap.size W W'):RTM w nm fv pl W':=
 ⟨h.bel.trans (hb.mono h.bel.size),aE h.rc hb (aD h.rc),aE h.row hb (aD h.row)⟩
theorem RTM.put {w W:World}{nm fv:Value}{pl:List Int}(h:RTM w nm fv pl W)(k:Nat)(z:Int):RTM w nm fv (pl.set k z) (W.setCell ⟨w.heap.size+1,k,none⟩ (.int .i64 z)):=
 ⟨h.bel.setCell (p:=⟨w.heap.size+1,k,none⟩) (by show w.heap.size≤w.heap.size+1;omega) _,bA h.rc (by show w.heap.size+1≠_;omega) _,(aN h.row k _).trans (by rw [aEX])⟩
theorem RTM.start (w:World)(nm fv:Value)(n:Nat):RTM w nm fv (List.replicate n 0) ((w.alloc (.cells #[nm,fv] 60)).alloc (.cells (eO (List.replicate n 0)).toArray 3)):=by
 refine ⟨((bH _ _).alloc bD _).alloc (by simp) _,?_,?_⟩
 · exact cL (cN w _) _
 · have h:=cN (w.alloc (.cells #[nm,fv] 60)) (.cells (eO (List.replicate n 0)).toArray 3);rw [World.size_alloc] at h;exact h
def zOf (j:Nat):Int:=[(8:Int),4,2,1,0].getD j 0
theorem aFt (j:Nat)(h:j<4):zOf j=inlinesL.getD j 0∧(zOf j).tdiv 2=zOf (j+1)∧0<zOf j∧(zOf (j+1)).toNat<(zOf j).toNat:=by
 have:j=0∨j=1∨j=2∨j=3:=by omega
 rcases this with rfl|rfl|rfl|rfl<;>decide
def aGs (w:World)(nm fv:Value)(fs:List SFld)(th:List Bool)(b a z:Value)(W:World):Prop:=
 ∃ j:Nat,j≤4∧z=.int .i64 (zOf j)∧b=.int .i64 (bP fs th j).size∧a=.int .i64 (bP fs th j).al∧RTM w nm fv (bP fs th j).pl W
def aGJ (w:World)(nm fv:Value)(fs:List SFld)(th:List Bool)(wd:Int)(s:lQ)(b a i:Value)(W:World):Prop:=
 ∃ k:Nat,k≤fs.length∧i=.int .i64 k∧b=.int .i64 (eA wd fs th s k).size∧a=.int .i64 (eA wd fs th s k).al∧RTM w nm fv (eA wd fs th s k).pl W
def aGH (W0:World)(n wd:Int)(b:Value)(W:World):Prop:=∃ c:Int,n≤c∧c≤hY n wd∧b=.int .i64 c∧W0=W
def aC8 (fs:List SFld)(th:List Bool)(w:World)(e:Ending)(w':World):Prop:=
 ∃ v,e=.returned (.tuple #[v,.int .i64 (bP fs th 4).size,.int .i64 (bP fs th 4).al])∧w'.ownsRow w.heap.size 3 1 v (bP fs th 4).pl.length (eO (bP fs th 4).pl)∧Below w.heap.size w w'
theorem xT (w:World)(nm:ByteArray)(fs:List SFld)(fv:Value)(base:Nat)(h:w.ownsRow base 77 5 fv fs.length (eH fs))(hn:fs.length≤1000)(hkd:∀ f ∈ fs,f.kind≤255)(th:List Bool)(tv:Value)(tbase:Nat)(ht:w.ownsRow tbase 4 1 tv th.length (cE th))(hth:th.length=fs.length) :
  Calls Tryd.prog 62 #[.agg #[.string nm,fv],tv] w (aC8 fs th w):=by
 obtain ⟨fa,fc,rfl⟩:=aJ h;obtain ⟨ta,tc,rfl⟩:=aJ ht;have HR:=aA h;have HTH:=aA ht;have HTL:=aA hth;have HKD:=aA hkd;have hfew:=iG h;have hfew2:=iG ht;have hmk:=aCE fs.length (by omega);clear h ht hth hkd;go_enter Tryd.func62,Tryd.ntmps62;go_upto_region 3 with (fail);have HM:=aA (RTM.start w (.string nm) (.slice fa fs.length fc) fs.length);generalize (w.alloc (.cells #[.string nm,.slice fa fs.length fc] 60)).alloc (.cells (eO (List.replicate fs.length 0)).toArray 3)=W0 at *;clear hmk;go_wp2_with fail;go_loopw [8,9,10] (fun b a z wr=>aGs w (.string nm) (.slice fa fs.length fc) fs th b a z wr) (fun _ _ z _=>(intOf z).toNat)
 case atStart=>exact ⟨0,Nat.zero_le _,rfl,rfl,rfl,HM.out⟩
 case round =>
  obtain ⟨j,hj,rfl,rfl,rfl,hm⟩:=hrel;have HM1:=aA hm;clear hm HM;obtain ⟨hsl,hsz0,hsz1,hal0,hal1⟩:=jS fs th j (by omega);have hs1:(bP fs th j).size≤60004:=by have:fs.length * j≤1000 * 4:=Nat.mul_le_mul hn hj;omega
  clear hsz1;by_cases hj4:j<4
  · obtain ⟨hzi,hzd,hz0,hzm⟩:=aFt j hj4;have hwd:=kS j hj4;rw [←hzi] at hwd;have HWA:Hid (bP fs th (j+1)=eA (zOf j) fs th (bP fs th j) fs.length):=aA (by rw [hzi];rfl);have HZN:Hid ((intOf (.int .i64 (zOf (j+1)))).toNat<(intOf (.int .i64 (zOf j))).toNat):=aA hzm;clear hzi hzm;generalize hzj:zOf j=wd at *;have HZJ:=aA hzj;generalize hzj2:zOf (j+1)=wd2 at *;have HZJ2:=aA hzj2;generalize bP fs th j=s at *;clear hzj hzj2;go_wp2_with fail;go_loopw [8,9,11] (fun b a i wq=>aGJ w (.string nm) (.slice fa fs.length fc) fs th wd s b a i wq) (fun _ _ i _=>fs.length-(intOf i).toNat)
    case atStart=>exact ⟨0,Nat.zero_le _,rfl,rfl,rfl,HM1.out⟩
    case round =>
     obtain ⟨k,hk,rfl,rfl,rfl,hm⟩:=hrel;have HM2:=aA hm;obtain ⟨hpl,hp4,hp5,ha4,ha8⟩:=nB hwd fs th s hsz0 hal0 hal1 k;clear hm;obtain ⟨hBl,r0,r1,_⟩:=mI HM2.out.rc;by_cases hkl:k<fs.length
     · have hki:(k:Int)<fs.length:=by omega
       have hkt:k<th.length:=by rw [HTL.out];exact hkl
       have hkti:(k:Int)<th.length:=by omega
       have hki0:(0:Int)≤(k:Int):=by omega
       obtain ⟨g,cc,hv,hcc,hg,hcell⟩:=eP eV 5 (fun _=>rfl) (bE HM2.out.bel HR.out) k hkl;obtain ⟨rfl,rfl⟩:=dG hv;obtain ⟨g3,c3,hv3,_,hg3,t0⟩:=aDN (bE HM2.out.bel HTH.out) k hkt;obtain ⟨rfl,rfl⟩:=dG hv3;have x0:wr.cell? ⟨g,k * 5,none⟩=some (.string fs[k].name):=hcell 0 (by omega);have x1:wr.cell? ⟨g,k * 5+1,none⟩=some (.int .u8 (fs[k].kind:Nat)):=hcell 1 (by omega);have x2:wr.cell? ⟨g,k * 5+2,none⟩=some (.int .i64 (fs[k].ref:Nat)):=hcell 2 (by omega);have x3:wr.cell? ⟨g,k * 5+3,none⟩=some (.int .i64 (fs[k].lists:Nat)):=hcell 3 (by omega);have x4:wr.cell? ⟨g,k * 5+4,none⟩=some (.int .u64 (fs[k].dflt:Nat)):=hcell 4 (by omega);have HST:=aA (aAZ (z:=wd) (s:=s) hkl hkt);have hkb:=HKD.out fs[k] (jK hkl);clear hcell hv hv3;generalize fs[k]=f at *;generalize th[k]=b at *;obtain ⟨fn,fk,fr,fl,fd⟩:=f;simp only at x0 x1 x2 x3 x4 hkb;generalize eA wd fs th s k=st at *
       have hmb:=sA hwd (show 0≤st.size by omega);have hib:=sG ⟨fn,fk,fr,fl,fd⟩;cases b
       · have HE:=aA (HST.out.trans (tI (.inl rfl)));clear HST;go_wp2;go_roundw
         case rel=>exact ⟨k+1,hkl,by go_num,by rw [HE.out],by rw [HE.out],by rw [HE.out];exact HM2.out⟩
         case measure=>simp [intOf];omega
       · go_wp2_with fail;refine (rH fn fk fr fl fd wr hkb).mono ?_;rintro e W2 ⟨rfl,hb2⟩;have HM4:=aA (HM2.out.later hb2);clear hb2 x0 x1 x2 x3 x4 t0 HM2 r0 r1;by_cases hiw:gW ⟨fn,fk,fr,fl,fd⟩=wd
         · have HE:=aA (HST.out.trans (aAa rfl hiw));rw [hiw];clear HST hiw hib;go_wp2_with fail;have hm0:hY st.size wd≤100000:=by omega
           go_loopw [8] (fun b wq=>aGH W2 st.size wd b wq) (fun b _=>(hY st.size wd-intOf b).toNat)
           case atStart=>exact ⟨st.size,Int.le_refl _,hmb.1,rfl,rfl⟩
           case round =>
            obtain ⟨c,hc1,hc2,rfl,hw⟩:=hrel;obtain rfl:W2=wr:=hw;have hwd0:wd≠0:=by omega
            have hct:c.tmod wd=c % wd:=Int.tmod_eq_emod_of_nonneg (by omega);by_cases hcm:c % wd=0
            · have hce:=aEd hwd hc1 hc2 hcm;have tb:(c % wd != 0)=false:=by simpa using hcm
              have HP:=aA (HM4.out.put k c);have c0:W2.cell? ⟨w.heap.size+1,k,none⟩=some (.int .i64 (st.pl.getD k 0)):=by rw [aU HM4.out.row k,gJ];simp [List.getD,hpl,hsl,hkl]
              have f0:=aB HM4.out.row k;have k1:=cU (c+wd);have HCE:=aA hce;obtain ⟨hBl2,r0,r1,_⟩:=mI HP.out.rc;generalize st.pl.getD k 0=old at *;clear hcm hce hc1 hc2;by_cases hal:st.al<wd
              · have HMX:Hid (max st.al wd=wd):=aA (by omega);go_wp2;go_roundw
                case rel=>exact ⟨k+1,hkl,by go_num,by rw [HE.out,HCE.out],by rw [HE.out];simp only;rw [HMX.out],by rw [HE.out,←HCE.out];exact HP.out⟩
                case measure=>simp [intOf];omega
              · have HMX:Hid (max st.al wd=st.al):=aA (by omega);go_wp2;go_roundw
                case rel=>exact ⟨k+1,hkl,by go_num,by rw [HE.out,HCE.out],by rw [HE.out];simp only;rw [HMX.out],by rw [HE.out,←HCE.out];exact HP.out⟩
                case measure=>simp [intOf];omega
            · have hcu:=aEs hwd hc1 hc2 hcm;have tb:(c % wd != 0)=true:=by simpa using hcm
              have k1:=cU (c+1);clear hcm;go_wp2;go_roundw
              case rel=>exact ⟨c+1,by omega,hcu,by go_num,rfl⟩
              case measure=>simp [intOf];omega
         · have HE:=aA (HST.out.trans (tI (.inr hiw)));have tb:(gW ⟨fn,fk,fr,fl,fd⟩==wd)=false:=by simpa using hiw
           have hrc:=HM4.out.rc;obtain ⟨hBl2,r0,r1,_⟩:=mI hrc;generalize gW ⟨fn,fk,fr,fl,fd⟩=q at *;clear HST hrc;go_wp2;go_roundw
           case rel=>exact ⟨k+1,hkl,by go_num,by rw [HE.out],by rw [HE.out],by rw [HE.out];exact HM4.out⟩
           case measure=>simp [intOf];omega
     · obtain rfl:k=fs.length:=by omega
       have HE:=aA HWA.out;have hdv:wd / 2=wd2:=by rw [←hzd];exact (Int.tdiv_eq_ediv_of_nonneg (by omega)).symm
       go_wp2;exact ⟨⟨j+1,by omega,by rw [HZJ2.out],by rw [HE.out],by rw [HE.out],by rw [HE.out];exact HM2.out⟩,HZN.out⟩
  · have hze:j=4:=by omega
    have HEQ:Hid (bP fs th 4=bP fs th j):=aA (by rw [hze]);have hz0:zOf j=0:=by rw [hze];rfl
    rw [hz0];clear hze hj hj4;generalize bP fs th j=st at *;have hrow:wr.ownsRow w.heap.size 3 1 (.slice (some ⟨w.heap.size+1,0,none⟩) fs.length fs.length) fs.length (eO st.pl):=by refine ⟨by rw [jQ,hsl];omega,.inr ⟨w.heap.size+1,fs.length,_,rfl,by omega,HM1.out.row,Nat.le_refl _,by unfold maxLen;omega,by simp [jQ,hsl],?_⟩⟩;rw [List.toList_toArray,List.take_of_length_le (by rw [jQ,hsl];omega)]
    have HROW:=aA hrow;clear hrow hz0;go_wp2;refine dZ (v:=.tuple #[.slice (some ⟨w.heap.size+1,0,none⟩) fs.length fs.length,.int .i64 st.size,.int .i64 st.al]) (by simp [results,Tryd.results62,go_sem]) rfl ?_;unfold aC8;rw [HEQ.out,hsl];exact ⟨_,rfl,HROW.out,HM1.out.bel⟩
theorem aCB (w:World)(name:ByteArray)(k:Nat)(ref lists:Int)(d:Nat)(hd:d≤18446744073709551615)(v:PV)(val:Value)(hv:IsV w v val) :
  Calls Tryd.prog 35 #[.agg #[.string name,.int .u8 k,.int .i64 ref,.int .i64 lists,.int .u64 d],val] w fun e w'=>uC v (dY d) e∧Below w.heap.size w w':=by
 have HV:=aA hv;obtain ⟨n,bs,ks,hh⟩:=v;obtain ⟨ba,ka,bc,kc,rfl,hn,hby,hbl,hbm,hkl,hkm,hks⟩:=hv.form;simp only [PV.num,PV.bytes,PV.kids,PV.has] at HV hn hby hbl hbm hkl hkm hks ⊢;obtain ⟨hb,hq1,hq2⟩:=bF w #[.string name,.int .u8 k,.int .i64 ref,.int .i64 lists,.int .u64 d] #[.int .u64 n,.slice ba bs.length bc,.slice ka ks.length kc,.bool hh] 77 38;have HB:=aA hb;have HV1:=aA (HV.out.later hb);have HD:=aA hd;obtain ⟨_,y0,y1,y2,y3,y4,_⟩:=lL hq1;obtain ⟨_,z0,z1,z2,z3⟩:=aF hq2;clear hb hq1 hq2 hv HV hby hks hn hbl hbm hkl hkm hd;go_enter Tryd.func35,Tryd.ntmps35;go_upto_region 1 with (fail)
 generalize (w.alloc (.cells #[.string name,.int .u8 k,.int .i64 ref,.int .i64 lists,.int .u64 d] 77)).alloc (.cells #[.int .u64 n,.slice ba bs.length bc,.slice ka ks.length kc,.bool hh] 38)=W0 at *;generalize w.heap.size+1=V at *;refine gL ?_;refine aFQ y0 y1 y2 y3 y4 z0 z1 z2 z3 ?_;intro hS;refine aK 0 (.agg #[.int .u64 n,.slice ba bs.length bc,.slice ka ks.length kc,.bool hh]) ?_;simp only [td];refine aK 1 (.agg #[.string name,.int .u8 k,.int .i64 ref,.int .i64 lists,.int .u64 d]) ?_;simp only [td];refine bS 2 fun K hK=>?_;go_simp;refine (nF W0.drew name k ref lists d).mono ?_;rintro e W2 ⟨rfl,hb2⟩;have hx2:Below W0.heap.size W0 W2:=(bH _ W0).drew.trans hb2;have HB2:=aA (HB.out.trans (hx2.mono HB.out.size));have HV2:=aA (HV1.out.later hx2);have ay0:=aC hx2 y0;have ay1:=aC hx2 y1;have ay2:=aC hx2 y2;have ay3:=aC hx2 y3;have ay4:=aC hx2 y4
 have az0:=aC hx2 z0;have az1:=aC hx2 z1;have az2:=aC hx2 z2;have az3:=aC hx2 z3;refine hK.out _ _ ⟨ay0,ay1,ay2,ay3,ay4,az0,az1,az2,az3⟩ (fun hS=>?_);clear hx2 hb2 hK y0 y1 y2 y3 y4 z0 z1 z2 z3;refine bS 3 fun K hK=>?_;go_simp;refine (sP _ W2 (dY d) _ _ HV2.out (aBK W2 d HD.out)).mono ?_;rintro e W3 ⟨⟨r,rfl,hiff⟩,hb3⟩;have HB3:=aA (HB2.out.trans (hb3.mono HB2.out.size));have by0:=aC hb3 ay0;have by1:=aC hb3 ay1;have by2:=aC hb3 ay2;have by3:=aC hb3 ay3;have by4:=aC hb3 ay4;have bz0:=aC hb3 az0;have bz1:=aC hb3 az1;have bz2:=aC hb3 az2;have bz3:=aC hb3 az3;refine hK.out _ _ ⟨by0,by1,by2,by3,by4,bz0,bz1,bz2,bz3⟩ (fun hS=>?_);refine aK 4 (.bool r) ?_;simp only [td];refine gA (by kernel_rfl) ?_ _;refine fI ?_;simp only [Exit.then];go_wp2;go_ret;exact ⟨⟨r,rfl,hiff⟩,HB3.out⟩
theorem aDb:(Tryd.prog.info? 5).map (fun i=>(i.zero,i.size,i.bytes))=some (some (.int .u8 0),1,1):=by kernel_rfl
def aFo (g:Nat)(a:Option Addr)(bs:List Int)(bc i:Nat)(w:World)(m:Nat)(x:Value)(wr:World):Prop:=∃ (j i2:Nat) (A:Option Addr) (cap:Nat) (zs:List Int),j≤m∧x=.int .i64 j∧wr.heap[w.heap.size+1+1+1+1]?=some (.cells #[.int .u64 0,.slice A j cap,.slice none 0 0,.bool false] 38 (0,0)) ∧
 wr.ownsRow (w.heap.size+1+1+1+1+1) 5 1 (.slice A j cap) j (bW zs)∧(∀ z ∈ zs,0≤z∧z≤255)∧wr.heap[w.heap.size+1+1+1]?=some (.cells #[.int .u64 0,.slice none 0 0,.slice none 0 0,.bool false] 38 (0,0))∧Src g a bs bc wr i2∧i≤i2∧Exc g w.heap.size w wr
theorem aBS (r left:Nat){d fk:Nat}{fr fl:Int}{nm:ByteArray}{sure:Bool}{b g i bc:Nat}{a:Option Addr}{bs:List Int}{ss:List (bK × Value)}{es:List (aX × Value)}{sv ev:Value}{root:Int}{w:World}  (hs:Src g a bs bc w i)(hg:∀ W,Exc g w.heap.size w W→SchRows b W ss es sv ev) :
  Calls Tryd.prog 41 #[.agg #[sv,ev,.int .i64 root],.agg #[.int .u8 12,.int .i64 r,.int .i64 0],.pointer (some ⟨g,0,none⟩),.int .i64 left,.agg #[.string nm,.int .u8 fk,.int .i64 fr,.int .i64 fl,.int .u64 d],.bool sure] w (lC g a bs bc i w ((fF ss).map Prod.fst) (es.map Prod.fst) left 12 r 0 sure):=by
 obtain ⟨h0,h1,h2,h3,h4,h5,h6⟩:=kO w #[sv,ev,.int .i64 root] #[.int .u8 12,.int .i64 r,.int .i64 0] #[.string nm,.int .u8 fk,.int .i64 fr,.int .i64 fl,.int .u64 d] #[.int .u64 0,.slice none 0 0,.slice none 0 0,.bool false] #[.int .u64 0,.slice none 0 0,.slice none 0 0,.bool false] 31 75 77 38 38;have HGL:=aA (aD hs.blk);have HS0:=aA hs;have HS:=aA (hs.below h0);have HG:=aA hg;have HB:=aA h0;have Q1:=aA h1;have Q2:=aA h2;have Q3:=aA h3;have Q4:=aA h4;have Q5:=aA h5;have HSZ:=aA h6;clear h0 h1 h2 h3 h4 h5 h6 hs hg;go_enter Tryd.func41,Tryd.ntmps41;go_upto_region 2 with (fail)
 generalize (((((w.alloc (.cells #[sv,ev,.int .i64 root] 31)).alloc (.cells #[.int .u8 12,.int .i64 r,.int .i64 0] 75)).alloc (.cells #[.string nm,.int .u8 fk,.int .i64 fr,.int .i64 fl,.int .u64 d] 77)).alloc (.cells #[.int .u64 0,.slice none 0 0,.slice none 0 0,.bool false] 38)).alloc (.cells #[.int .u64 0,.slice none 0 0,.slice none 0 0,.bool false] 38))=W0 at *;go_wp2_with fail;refine (kT g a bs bc i W0 HS.out).mono ?_;rintro e W1 ⟨c,i1,rfl,hc,hi1,hs1,hx1⟩;have hgl:=HGL.out;have HS1:=aA hs1;have HX1:=aA ((Exc.of_below HB.out).thenB bD hx1);have HB1:=aA (eM (Nat.le_of_eq HSZ.out) hx1.size);have R1:=aA (aZ Q1.out hx1 (aD Q1.out) (by omega));have R2:=aA (aZ Q2.out hx1 (aD Q2.out) (by omega));have R3:=aA (aZ Q3.out hx1 (aD Q3.out) (by omega));have R4:=aA (aZ Q4.out hx1 (aD Q4.out) (by omega))
 have R5:=aA (aZ Q5.out hx1 (aD Q5.out) (by omega));clear hs1 hx1 HS Q1 Q2 Q3 Q4 Q5 HSZ HB hgl;obtain ⟨_,t0,t1,t2,_⟩:=aS R2.out;go_upto_region 29 with (fail);go_wp2_with fail;refine (mG 12 r 0 W1 (by decide)).mono ?_;rintro e W2 ⟨rfl,hb2⟩;rw [show dE 12 0=false from rfl];have HS2:=aA (HS1.out.below hb2);have HX2:=aA (HX1.out.bel bD hb2);have R22:=aA (aE R2.out hb2 (aD R2.out));have R42:=aA (aE R4.out hb2 (aD R4.out));have R52:=aA (aE R5.out hb2 (aD R5.out));clear hb2 t0 t1 t2 R1 R2 R3 R4 R5 HS1 HX1 HB1;obtain ⟨_,t0,t1,t2,_⟩:=aS R22.out;obtain ⟨m,hm⟩:∃ m:Nat,c % 7=m:=⟨_,rfl⟩;have hmod:(c:Int).tmod 7=m:=by rw [Int.tmod_eq_emod_of_nonneg (by omega)];omega
 have hm7:m<7:=by omega
 clear hm;go_wp2_with fail;have HST:Hid (aFo g a bs bc i w m (.int .i64 ((0:Nat):Int)) W2):=aA ⟨0,i1,none,0,[],Nat.zero_le _,rfl,R52.out,World.ownsRow_nil _ _ _ _,fun z hz=>by (cases hz),R42.out,HS2.out,hi1,HX2.out⟩;clear t0 t1 t2 R22 R42 R52 HS2 HX2;go_loopw [25] (fun x wr=>aFo g a bs bc i w m x wr) (fun x _=>7-(intOf x).toNat)
 case atStart=>exact HST.out
 case round =>
  obtain ⟨j,i2,A,cap,zs,hj,rfl,hO,hrow,hz,hR,hs,hi2,hx⟩:=hrel;have HO:=aA hO;have HROW:=aA hrow;have HZ:=aA hz;have HR:=aA hR;have HSW:=aA hs;have HXW:=aA hx;clear hO hrow hz hR hs hx;by_cases hjm:j<m
  · have hji:(j:Int)<m:=by omega
    go_wp2_with fail;refine (kT g a bs bc i2 wr HSW.out).mono ?_;rintro e W5 ⟨c2,i3,rfl,hc2,hi3,hs5,hx5⟩;have hgl:=HGL.out;have hcw:IntKind.u8.wrap (c2:Int)=c2:=u8_in _ (by omega) (by omega);have hne:∀ k,(Value.slice A j cap).ownBlock=some k→k≠g:=fun k hk=>by have:=(aV HROW.out k hk).1;omega
    have HS5:=aA hs5;have HX5:=aA (HXW.out.thenB bD hx5);have HO5:=aA (aZ HO.out hx5 (aD HO.out) (by omega));have HR5:=aA (aZ HR.out hx5 (aD HR.out) (by omega));have HROW5:=aA (hx5.ownsRow HROW.out (fun e=>hne g e rfl));have HBN:=aA (cN W5 (.cells #[.int .u8 c2] 5));have HBA:=aA ((bH W5.heap.size W5).alloc bD (.cells #[.int .u8 c2] 5));have hO1:=aD HO5.out;obtain ⟨_,v0,v1,v2,v3⟩:=aF HO5.out;obtain ⟨i0,hi0,hzz0,hzz1,hzz2⟩:=info_parts aDb;have I1:=aA hi0;have I2:=aA hzz0;have I3:=aA hzz1;have I4:=aA hzz2;clear hs5 hx5 hne hi0 hzz0 hzz1 hzz2 HO HR HROW HSW HXW
    go_wp2_with (at_builtin;refine wpList_append_own _ rfl (.tmp 39) (.tmp 42) 22 rfl (w.heap.size+1+1+1+1+1) 5 i0 _ 1 1 Tryd.underlying22 I1.out I2.out I3.out I4.out rfl (by decide) _ j (bW zs) rfl (bE HBA.out HROW5.out) _ 1 1 [.int .u8 c2] rfl rfl (World.news_of_block HBN.out) (by intro u hu;rw [List.mem_singleton.1 hu];rfl) (by unfold maxLen;omega) (by omega) (by simp;omega) ?_;intro v4 W8 hown4 hg4 hx;clear hx;obtain ⟨a4,m4,rfl⟩:=aJ hown4;obtain ⟨s1,s2,s3,s4,s5⟩:=rT 1 HX5.out (show w.heap.size≤w.heap.size+1+1+1+1 by omega) HO5.out HROW5.out HBA.out hg4 hown4;obtain ⟨_,d0,d1,d2,d3⟩:=aF s4;have e1:=aB s4 1;have S1:=aA s1;have S2:=aA s2;have S3:=aA s3;have S5:=aA s5;clear s1 s2 s3 s4 s5 hown4 hg4);go_roundw
    case rel =>
     have hgl:=HGL.out;exact ⟨j+1,i3,a4,m4,zs++[(c2:Int)],by omega,by go_num,S2.out.trans rfl,by rw [wM];exact S3.out,fun z hz=>by (rcases List.mem_append.1 hz with h|h;exact HZ.out z h;rw [List.mem_singleton.1 h];omega),(S5.out _ (by omega)).trans HR5.out,HS0.out.at S1.out HS5.out (S5.out g (by omega)),by omega,S1.out⟩
    case measure=>simp [intOf];omega
  · obtain rfl:j=m:=by omega
    obtain ⟨_,u0,u1,u2,u3⟩:=aF HR.out;obtain ⟨_,v0,v1,v2,v3⟩:=aF HO.out;have p0:=aB HR.out 0;have p1:=aB HR.out 1;have p2:=aB HR.out 2;have p3:=aB HR.out 3;go_wp2;refine aI (fun Wf=>Wf.heap[w.heap.size+1+1+1]?=some (.cells #[.int .u64 0,.slice A j cap,.slice none 0 0,.bool false] 38 (0,0))∧Exc g w.heap.size w Wf∧Src g a bs bc Wf i2∧Wf.ownsRow (w.heap.size+1+1+1+1+1) 5 1 (.slice A j cap) j (bW zs)) ⟨?_,?_,?_,?_⟩ ?_
    · exact aO HR.out _ _ _ _
    · exact dL HXW.out (lD (lD (Nat.le_succ _))) _ _ _ _
    · have hgl:=HGL.out;exact HS0.out.at (dL HXW.out (lD (lD (Nat.le_succ _))) _ _ _ _) HSW.out (aQ _ (by omega) _ _ _ _)
    · exact fN HROW.out (by omega) _ _ _ _
    · rintro Wf ⟨e1,e2,e3,e4⟩;obtain ⟨_,d0,d1,d2,d3⟩:=aF e1;exact dZ (v:=.agg #[.int .u64 0,.slice A j cap,.slice none 0 0,.bool false]) (by simp [results,Tryd.results41,go_sem,d0,d1,d2,d3]) rfl ⟨.mk 0 zs [] false,_,i2,rfl,nP e4 HZ.out (fun k hk=>by unfold cW;simp;omega),⟨aCh,zK (by have:=(kB (S:=fun _=>false) e4 HZ.out (fun _ _=>rfl)).2;omega)⟩,fun h=>absurd h (by decide),by omega,e3,e2⟩
theorem vQ (left:Nat)(hl12:left≤12)(hnx:∀ q,left=q+1→uH q):uH left:=by
 intro k r l d fk fr fl nm sure b g i bc a bs ss es sv ev root w ht hm hs hg hd hdf;cases l with
 | zero =>
  have h10:k≤10∨k=11∨k=12∨k=13:=by have:=ht.hi;omega
  rcases h10 with h|rfl|rfl|rfl
  · exact aD7 k r left ⟨ht.lo,h,ht.en⟩ hd (hdf rfl h) hs hg
  · exact aCz r left hs hg
  · exact aBS r left hs hg
  · exact zH r left (ht.st rfl) hm hnx hl12 hs hg
 | succ lm =>
  have ht':oN ss.length (es.map Prod.fst) k r lm:=⟨ht.lo,ht.hi,by have:=ht.li;omega,ht.en,ht.st⟩;by_cases h0:lm=0
  · by_cases hk:k=13
    · exact aAS k r (lm+1) lm left rfl ht.li ⟨h0,hk⟩ ht' hm hnx hl12 hs hg
    · exact aBg k r (lm+1) lm left rfl ht.li ⟨h0,hk⟩ ht' hm hnx hl12 hs hg
  · exact aBm k r (lm+1) lm left rfl ht.li h0 ht' hm hnx hl12 hs hg
theorem aAh:∀ left,left≤12→uH left
 | 0,h=>vQ 0 h (fun q hq=>by cases hq)
 | n+1,h=>vQ (n+1) h (fun q hq=>by injection hq with hq;exact hq▸aAh n (by omega))
end Go.Proofs.YtpbaaiilfkacnaaDoor
