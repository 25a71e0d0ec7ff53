/-
  The document's writer of tables: its block in memory, and what a step of it leaves. Conditions: those that each theorem names.
-/
import Derived.Test.YtpbaaiilfkacnaaDoorPkQ19
namespace Go.Proofs.YtpbaaiilfkacnaaDoor
open Go.ChangeShapes Go.WideShapes Go.ChangeAt Go.RowKit Go.Shelf
set_option maxRecDepth 100000
set_option maxHeartbeats 16000000
theorem aEC {x y:Int}(hx:0≤x∧x≤255)(hy:0≤y∧y≤255)(h:UInt8.ofNat x.toNat=UInt8.ofNat y.toNat):x=y:=by have h1:=congrArg UInt8.toNat h;simp only [UInt8.toNat_ofNat'] at h1;omega
theorem yQ:∀ (a b:List Int),(∀ z ∈ a,0≤z∧z≤255)→(∀ z ∈ b,0≤z∧z≤255)→(a.map fun n=>UInt8.ofNat n.toNat)=(b.map fun n=>UInt8.ofNat n.toNat)→a=b
 | [],[],_,_,_=>rfl
 | [],y::b,_,_,h=>by simp at h
 | x::a,[],_,_,h=>by simp at h
 | x::a,y::b,ha,hb,h=>by rw [List.map_cons,List.map_cons,List.cons.injEq] at h;rw [aEC (ha x (by simp)) (hb y (by simp)) h.1,yQ a b (fun z hz=>ha z (by simp [hz])) (fun z hz=>hb z (by simp [hz])) h.2]
theorem mem_range {a:List Int}(h:∀ i,0≤a.getD i 0∧a.getD i 0≤255):∀ z ∈ a,0≤z∧z≤255:=fun z hz=>by
 obtain ⟨i,hi,rfl⟩:=List.getElem_of_mem hz;have:=h i
 rwa [List.getD,iO hi,Option.getD_some] at this
theorem aCj {a b:List Int}(ha:∀ i,0≤a.getD i 0∧a.getD i 0≤255)(hb:∀ i,0≤b.getD i 0∧b.getD i 0≤255)(h:strOfNums a=strOfNums b):a=b:=by have h1:=congrArg (fun s:ByteArray=>s.data.toList) h;exact yQ a b (mem_range ha) (mem_range hb) h1
theorem mP {W:World}{p:Option Addr}{zs:List Int}(h:Bytes W p zs)(c:Nat):(convert 22 9 (.slice p zs.length c)).run Tryd.prog W=.ok (.string (strOfNums zs)) W:=by
 by_cases hz:zs=[]
 · subst hz;exact aCc W _ 5 _ Tryd.underlying22 Tryd.underlying5 Tryd.underlying9 p c
 · obtain ⟨b,off,rfl,_,hc⟩:=h.2 hz;exact run_convert_bytes_arg W _ 5 Tryd.underlying22 Tryd.underlying5 b off zs.length c zs rfl hc _ Tryd.underlying9
theorem aFs {a b:ByteArray}(h:a=b):(a.toList==b.toList)=true:=by rw [h];exact beq_self_eq_true _
theorem aGt {a b:ByteArray}(h:a≠b):(a.toList==b.toList)=false:=by
 rw [beq_eq_false_iff_ne];intro e;rw [ByteArray.toList_eq,ByteArray.toList_eq] at e;apply h
 obtain ⟨⟨a⟩⟩:=a;obtain ⟨⟨b⟩⟩:=b;have e2:a=b:=e;rw [e2]
def uC (a b:PV)(e:Ending):Prop:=∃ r,e=.returned (.bool r)∧(r=true ↔ a=b)
def aA6 (a:PV):Prop:=∀ (W:World) (b:PV) (va vb:Value),IsV W a va→IsV W b vb →
    Calls Tryd.prog 32 #[va,vb] W fun e w'=>uC a b e∧Below W.heap.size W w'
def aGE (W0:World)(ks ls:List PV)(i:Value)(W:World):Prop:=∃ j:Nat,j≤ks.length∧i=.int .i64 j∧Below W0.heap.size W0 W∧ks.take j=ls.take j
theorem sV {a b:PV}(h:a≠b){W w:World}(hb:Below w.heap.size w W):uC a b (.returned (.bool false))∧Below w.heap.size w W:=⟨⟨false,rfl,by simp [h]⟩,hb⟩
theorem aCd (n:Nat)(bs:List Int)(ks:List PV)(hh:Bool)(hnext:∀ q ∈ ks,aA6 q):aA6 (.mk n bs ks hh):=by
 intro w b va vb ha hb';obtain ⟨m,cs,ls,gg⟩:=b;obtain ⟨ba,ka,bc,kc,rfl,hn,hby,hbl,hbm,hkl,hkm,hks⟩:=ha.form;obtain ⟨bb,kb2,bd,kd,rfl,hm,hcy,hcl,hcm,hll,hlm,hls⟩:=hb'.form;simp only [PV.num,PV.bytes,PV.kids,PV.has] at hn hby hbl hbm hkl hkm hks hm hcy hcl hcm hll hlm hls ⊢;obtain ⟨hb,hq1,hq2⟩:=bF w #[.int .u64 n,.slice ba bs.length bc,.slice ka ks.length kc,.bool hh] #[.int .u64 m,.slice bb cs.length bd,.slice kb2 ls.length kd,.bool gg] 38 38;have HB:=aA hb;have HQ1:=aA hq1;have HQ2:=aA hq2;have HKS:=aA (KidsAt.later (w:=w) (ks:=ks) (ka:=ka) hks hb);have HLS:=aA (KidsAt.later (w:=w) (ks:=ls) (ka:=kb2) hls hb);have HNX:=aA hnext;have HNB:=aA (fun h:bs=cs=>congrArg strOfNums h);have HINJ:=aA (fun h:strOfNums bs=strOfNums cs=>aCj hby.1 hcy.1 h);have k1:=mP (hby.below bD hb) bc;have k2:=mP (hcy.below bD hb) bd
 clear hb hq1 hq2 hks hls hnext ha hb' hby hcy hbl hbm hcl hcm hkl hll;go_enter Tryd.func32,Tryd.ntmps32;go_upto_region 1 with (fail);generalize (w.alloc (.cells #[.int .u64 n,.slice ba bs.length bc,.slice ka ks.length kc,.bool hh] 38)).alloc (.cells #[.int .u64 m,.slice bb cs.length bd,.slice kb2 ls.length kd,.bool gg] 38)=W0 at *;generalize w.heap.size+1=V at *;obtain ⟨_,s0,s1,s2,s3⟩:=aF HQ1.out;obtain ⟨_,v0,v1,v2,v3⟩:=aF HQ2.out;generalize strOfNums bs=S1 at *;generalize strOfNums cs=S2 at *;by_cases h1:n=m
 case neg =>
  have t1:((n:Int) != (m:Int))=true:=by simp;omega
  have HN:Hid (PV.mk n bs ks hh≠.mk m cs ls gg):=aA (fun h=>h1 (congrArg PV.num h));clear h1;go_wp2;go_ret;exact sV HN.out HB.out
 case pos =>
 have t1:((n:Int) != (m:Int))=false:=by simp;omega
 by_cases h2:S1=S2
 case neg =>
  have t2:=aGt h2;have HN:Hid (PV.mk n bs ks hh≠.mk m cs ls gg):=aA (fun h=>h2 (HNB.out (congrArg PV.bytes h)));clear h1 h2;go_wp2;go_ret;exact sV HN.out HB.out
 case pos =>
 have t2:=aFs h2;have HBS:=aA (HINJ.out h2);have HNM:=aA h1;clear HINJ h1;by_cases h3:hh=gg
 case neg =>
  have t3:(hh != gg)=true:=bne_iff_ne.2 h3;have HN:Hid (PV.mk n bs ks hh≠.mk m cs ls gg):=aA (fun h=>h3 (congrArg PV.has h));clear h2 t3;go_wp2;go_ret;exact sV HN.out HB.out
 case pos =>
 have t3:(hh != gg)=false:=by rw [h3];simp
 have HHG:=aA h3;by_cases h4:ks.length=ls.length
 case neg =>
  have t4:((ks.length:Int) != (ls.length:Int))=true:=by simp;omega
  have HN:Hid (PV.mk n bs ks hh≠.mk m cs ls gg):=aA (fun h=>h4 (congrArg (fun v=>(PV.kids v).length) h));clear h4 h3 h2;go_wp2;go_ret;exact sV HN.out HB.out
 case pos =>
 have t4:((ks.length:Int) != (ls.length:Int))=false:=by simp;omega
 have HLEN:=aA h4;clear h4 h3 h2;go_wp2_with fail;go_loopw [5] (fun i wr=>aGE W0 ks ls i wr) (fun i _=>ks.length-(intOf i).toNat)
 case atStart=>exact ⟨0,Nat.zero_le _,rfl,bH _ _,rfl⟩
 case round =>
  obtain ⟨j,hj,rfl,hb,hall⟩:=hrel;have HALL:=aA hall;have HBW:=aA hb;clear hall hb k1 k2 s0 s1 s2 s3 v0 v1 v2 v3 t1 t2 t3 t4;obtain ⟨_,s0,s1,s2,s3⟩:=aF (aE HQ1.out HBW.out (aD HQ1.out));obtain ⟨_,v0,v1,v2,v3⟩:=aF (aE HQ2.out HBW.out (aD HQ2.out));clear s0 s1 s3 v0 v1 v3;by_cases hjl:j<ks.length
  · have hji:(j:Int)<ks.length:=by omega
    have hji0:(0:Int)≤(j:Int):=by omega
    have hjm:j<ls.length:=by have:=HLEN.out;omega
    have hjmi:(j:Int)<ls.length:=by omega
    obtain ⟨kb,ko,u0,u1,u2,u3,rfl,c0,c1,c2,c3,hiv⟩:=HKS.out.later HBW.out j hjl;obtain ⟨lb,lo,x0,x1,x2,x3,rfl,d0,d1,d2,d3,hjv⟩:=HLS.out.later HBW.out j hjm;have HSM:=aA (fun W (hb:Below wr.heap.size wr W)=>HNX.out ks[j] (jK hjl) W ls[j] _ _ (hiv.later hb) (hjv.later hb));have HTK:Hid (ks.take (j+1)=ls.take (j+1) ↔ ks[j]=ls[j]):=aA (by
     rw [List.take_succ_eq_append_getElem hjl,List.take_succ_eq_append_getElem hjm,HALL.out];constructor
     · intro h;have h2:=List.append_cancel_left h;injection h2
     · intro h;rw [h])
    have HNE:Hid (ks[j]≠ls[j]→PV.mk n bs ks hh≠.mk m cs ls gg):=aA (fun hne h=>by have h1:ks=ls:=congrArg PV.kids h;subst h1;exact hne rfl)
    generalize ks[j]=q at *;generalize ls[j]=p at *;clear hiv hjv;go_upto_region 6 with (fail);refine gL ?_;refine aFn s2 v2 c0 c1 c2 c3 d0 d1 d2 d3 ?_;intro hS;refine aK 0 (.pointer (some ⟨w.heap.size,2,none⟩)) ?_;simp only [td];refine aK 1 (.slice (some ⟨kb,ko,none⟩) ks.length kc) ?_;simp only [td];refine aK 2 (.int .i64 j) ?_;simp only [td];refine aK 3 (.pointer (some ⟨kb,ko+j * 4,none⟩)) ?_;simp only [td];refine aK 4 (.agg #[u0,u1,u2,u3]) ?_;simp only [td];refine aK 5 (.pointer (some ⟨V,2,none⟩)) ?_;simp only [td];refine aK 6 (.slice (some ⟨lb,lo,none⟩) ls.length kd) ?_;simp only [td];refine aK 7 (.int .i64 j) ?_;simp only [td];refine aK 8 (.pointer (some ⟨lb,lo+j * 4,none⟩)) ?_;simp only [td];refine aK 9 (.agg #[x0,x1,x2,x3]) ?_;simp only [td];refine bS 10 fun K hK=>?_;go_simp;refine (HSM.out _ (bH _ wr).drew).mono ?_;rintro e W3 ⟨⟨r,rfl,hiff⟩,hb3⟩
    have hx:Below wr.heap.size wr W3:=(bH _ wr).drew.trans hb3;have HB3:=aA (HBW.out.trans (hx.mono HBW.out.size));have zs2:=aC hx s2;have zv2:=aC hx v2;have zc0:=aC hx c0;have zc1:=aC hx c1;have zc2:=aC hx c2;have zc3:=aC hx c3;have zd0:=aC hx d0;have zd1:=aC hx d1;have zd2:=aC hx d2;have zd3:=aC hx d3;refine hK.out _ _ ⟨zs2,zv2,zc0,zc1,zc2,zc3,zd0,zd1,zd2,zd3⟩ (fun hS=>?_);cases r with
    | false =>
     have HNQ:Hid (q≠p):=aA (fun h=>by have h2:=hiff.2 h;cases h2);clear hiff;refine aK 11 (.bool true) ?_;simp only [td];refine gA (by kernel_rfl) ?_ _;refine fI ?_;simp only [Exit.then];go_wp2;go_ret;exact sV (HNE.out HNQ.out) (HB.out.trans (HB3.out.mono HB.out.size))
    | true =>
     have HYQ:=aA (hiff.1 rfl);clear hiff;refine aK 11 (.bool false) ?_;simp only [td];refine gA (by kernel_rfl) ?_ _;refine fI ?_;simp only [Exit.then];go_wp2;go_roundw
     case rel=>exact ⟨j+1,by omega,by go_num,HB3.out,HTK.out.2 HYQ.out⟩
     case measure=>simp [intOf];omega
  · obtain rfl:j=ks.length:=by omega
    have HEQ:Hid (PV.mk n bs ks hh=.mk m cs ls gg):=aA (by have h:=HALL.out;rw [List.take_length,HLEN.out,List.take_length] at h;rw [HNM.out,HBS.out,h,HHG.out]);have hlt:¬(ks.length:Int)<ks.length:=Int.lt_irrefl _;go_wp2;go_ret;exact ⟨⟨true,rfl,⟨fun _=>by have h:=HEQ.out;rw [HHG.out] at h;exact h,fun _=>rfl⟩⟩,HB.out.trans (HBW.out.mono HB.out.size)⟩
theorem sP:(a:PV)→aA6 a
 | .mk n bs ks hh=>aCd n bs ks hh (fun q _=>sP q)
def BO (W:World)(g n:Nat):Prop:=∃ cs:List Value,W.heap[g]?=some (.cells cs.toArray 5 (0,0))∧n≤cs.length∧∀ j,j<n→∃ z:Int,0≤z∧z≤255∧cs[j]?=some (.int .u8 z)
theorem BO.lt {W:World}{g n:Nat}(h:BO W g n):g<W.heap.size:=by obtain ⟨cs,hb,_⟩:=h;exact aD hb
theorem BO.cell {W:World}{g n j:Nat}(h:BO W g n)(hj:j<n):∃ z:Int,0≤z∧z≤255∧W.cell? ⟨g,j,none⟩=some (.int .u8 z)∧W.frozen? ⟨g,j,none⟩=false:=by obtain ⟨cs,hb,hn,hc⟩:=h;obtain ⟨z,h0,h1,hcz⟩:=hc j hj;refine ⟨z,h0,h1,?_,aB hb _⟩;rw [aU hb];simpa using hcz
theorem BO.set {W:World}{g n j:Nat}{z:Int}(h:BO W g n)(h0:0≤z)(h1:z≤255):BO (W.setCell ⟨g,j,none⟩ (.int .u8 z)) g n:=by
 obtain ⟨cs,hb,hn,hc⟩:=h;refine ⟨cs.set j (.int .u8 z),?_,by simpa using hn,fun i hi=>?_⟩
 · simp [World.setCell,Array.getElem?_modify,hb]
 · by_cases e:j=i
   · subst e;exact ⟨z,h0,h1,by rw [List.getElem?_set_self (by omega)]⟩
   · rw [List.getElem?_set_ne e];exact hc i hi
theorem BO.keep {W W':World}{g n:Nat}(h:BO W g n)(hb:W'.heap[g]?=W.heap[g]?):BO W' g n:=by obtain ⟨cs,h1,h2⟩:=h;exact ⟨cs,hb.trans h1,h2⟩
theorem BO.drew {W:World}{g n:Nat}(h:BO W g n):BO W.drew g n:=h.keep rfl
theorem BO.below {W W':World}{g n B:Nat}(h:BO W g n)(hb:Below B W W')(hg:g<B):BO W' g n:=h.keep (hb.block g hg)
theorem BO.part {W:World}{g n:Nat}(h:BO W g n)(o m:Nat)(hm:o+m≤n):∃ ys:List Int,ys.length=m∧Bytes W (some ⟨g,o,none⟩) ys:=by
 obtain ⟨ys,hl,hz⟩:=kX (fun j (z:Int)=>0≤z∧z≤255∧W.cell? ⟨g,o+j,none⟩=some (.int .u8 z)) 0 m (fun j hj=>by obtain ⟨z,h0,h1,hc,_⟩:=h.cell (j:=o+j) (by omega);exact ⟨z,h0,h1,hc⟩);refine ⟨ys,hl,fun i=>?_,fun _=>⟨g,o,rfl,h.lt,fun i hi=>(hz i (by omega)).2.2⟩⟩;rcases Nat.lt_or_ge i m with hi|hi
 · exact ⟨(hz i hi).1,(hz i hi).2.1⟩
 · rw [List.getD,List.getElem?_eq_none (by omega)];decide
theorem aDT {W:World}{base cap:Nat}{A:Option Addr}{zs:List Int}(h:kV W base 5 A cap zs)(hz:∀ z ∈ zs,0≤z∧z≤255)(hne:0<zs.length):∃ g,A=some ⟨g,0,none⟩∧base≤g∧BO W g zs.length∧zs.length≤cap:=by
 obtain ⟨hl,h'⟩:=h;rcases h' with ⟨hv,hn⟩|⟨g,cap',cur,hv,hb,hg,hn,hm,hs,ht⟩
 · omega
 · cases hv;refine ⟨g,rfl,hb,⟨cur.toList,by simpa using hg,by simp at hs ⊢;omega,fun j hj=>?_⟩,hn⟩;have h1:(eI zs)[j]?=some (.int .u8 zs[j]):=by simp [eI,hj]
   rw [←ht,List.getElem?_take,bG (by omega)] at h1;exact ⟨zs[j],(hz _ (jK hj)).1,(hz _ (jK hj)).2,h1⟩
theorem BO.copy {W:World}{g n gP m:Nat}(h:BO W g n)(hP:BO W gP m)(o cap mc ty:Nat)(ho:o<n){B:Nat}(hB:B≤g) :
  ∃ c W',(Builtin.copy_ #[22,22] ty #[.slice (some ⟨g,o,none⟩) (n-o) cap,.slice (some ⟨gP,0,none⟩) m mc]).run Tryd.prog W=.ok c W'∧BO W' g n∧Below B W W':=by
 obtain ⟨ys,hyl,hyr,hyc⟩:=hP.part 0 (min m (n-o)) (by omega);have hcl:(eI ys).length=min m (n-o):=by simp [eI,hyl]
 obtain ⟨cs,hb,hn,hc⟩:=h;have hrun:=run_copy_row (P:=Tryd.prog) W 22 22 ty 5 g o (n-o) cap ⟨gP,0,none⟩ m mc cs.toArray 5 (eI ys) Tryd.underlying22 aEZ hb (by rw [hcl]) (fun j v hv=>by
  have hj:j<ys.length:=by have:=(List.getElem?_eq_some_iff.1 hv).1;simpa [eI] using this
  obtain ⟨b,off,he,_,hcc⟩:=hyc (by intro e;rw [e] at hj;simp at hj);cases he;rw [Go.WideShapes.add_plain];have:=hcc j hj;rw [this];simpa [eI,List.getD,hj] using hv) (by rw [hcl];simp;omega) (aBL _)
 refine ⟨_,_,hrun,?_,below_setRow (bH _ _) hB _⟩;refine ⟨_,setRow_heap W g _ _ 5 _ hb,?_,fun j hj=>?_⟩
 · rw [List.length_append,List.length_append,List.length_take,List.length_drop];show n≤_;simp only [];omega
 · have hoff:(cs.take o).length=o:=by simp;omega
   show ∃ z:Int,0≤z∧z≤255∧(cs.toArray.toList.take o++eI ys++cs.toArray.toList.drop (o+(eI ys).length))[j]?=_;simp only [];by_cases h1:j<o
   · obtain ⟨z,h0,h2,h3⟩:=hc j hj;exact ⟨z,h0,h2,by rw [List.append_assoc,List.getElem?_append_left (by omega),List.getElem?_take,bG h1];exact h3⟩
   · by_cases h2:j<o+(eI ys).length
     · have hjy:j-o<ys.length:=by rw [hcl] at h2;omega
       refine ⟨ys.getD (j-o) 0,(hyr _).1,(hyr _).2,?_⟩;rw [List.append_assoc,List.getElem?_append_right (by omega),hoff,List.getElem?_append_left (by omega)];simp [eI,List.getD,hjy]
     · obtain ⟨z,h0,h3,h4⟩:=hc j hj;refine ⟨z,h0,h3,?_⟩;have hl2:(cs.take o++eI ys).length=o+(eI ys).length:=by rw [List.length_append,hoff]
       rw [List.getElem?_append_right (by omega),List.getElem?_drop,hl2,show o+(eI ys).length+(j-(o+(eI ys).length))=j by omega];exact h4
theorem aFP (n:Int):0≤IntKind.u8.wrap n∧IntKind.u8.wrap n≤255:=by simp only [IntKind.wrap,IntKind.bits,IntKind.signed];simp;omega
theorem aDA:(Tryd.prog.info? 5).map (fun i=>(i.zero,i.size,i.bytes))=some (some (.int .u8 0),1,1):=by kernel_rfl
theorem BO.taken {W:World}{g n G:Nat}(h:BO W g n)(o m:Nat)(hm:o+m≤n)(h0:0<m)(h4:m≤1000)(cap ty:Nat)(hG:W.heap[G]?=some (.cells #[] 5 (0,0))) :
  ∃ gP mc W',(Builtin.append_ #[22,22] ty #[.slice (some ⟨G,0,none⟩) 0 0,.slice (some ⟨g,o,none⟩) m cap]).run Tryd.prog W=.ok (.slice (some ⟨gP,0,none⟩) m mc) W'∧BO W' gP m∧G≤gP∧Below G W W':=by
 obtain ⟨ys,hyl,hyb⟩:=h.part o m hm;obtain ⟨i,hi,hz,hs,hby⟩:=info_parts aDA;have hlt:=aD hG;have hown:=jR (base:=G) (n:=0) (size:=1) hG bD (by decide) rfl;have hsrc:=kA hyb (fun _ _ hp=>hp) cap;rw [hyl] at hsrc;obtain ⟨v',W',hrun,ho',hg',_⟩:=iD (P:=Tryd.prog) W G 22 22 ty 5 i _ 1 Tryd.underlying22 hi hz hs rfl _ 0 _ hown _ m _ hsrc (by unfold maxLen;omega) (by rw [hby];omega) (Nat.le_of_lt hlt);obtain ⟨a,c,rfl⟩:=aJ ho';rw [cX] at ho';have hyr:∀ z ∈ ys,0≤z∧z≤255:=fun z hz=>by obtain ⟨j,hj,rfl⟩:=List.mem_iff_getElem.1 hz;have:=hyb.1 j;rw [List.getD,iO hj] at this;exact this
 have ho2:kV W' G 5 a c ys:=by unfold kV;rw [hyl];exact ho'
 obtain ⟨gP,rfl,hge,hbo,_⟩:=aDT ho2 hyr (by omega);rw [hyl] at hbo;refine ⟨gP,c,W',by rw [hrun,cX],hbo,hge,?_⟩;exact (bH G W).grown hg' (Nat.le_of_lt hlt) (fun k hk=>(aV hown k hk).1)
structure aFC (b0:Option Addr)(nb cb:Nat)(W2:World)(sa:Option Addr)(sl sc:Nat)(ea:Option Addr)(el ec:Nat)(rt:Int):Prop where
 val:nb≤2000→∀ W,Below W2.heap.size W2 W→Calls Tryd.prog 12 #[.agg #[.slice sa sl sc,.slice ea el ec,.int .i64 rt],.slice b0 nb cb] W fun e w1=>Below W.heap.size W w1∧∃ (val:Value) (n:Nat),e=.returned val∧4≤n∧n≤140000000000 ∧
  ∀ w2,Below w1.heap.size w1 w2→Calls Tryd.prog 11 #[.agg #[.slice sa sl sc,.slice ea el ec,.int .i64 rt],val] w2 fun e w'=>Below w2.heap.size w2 w'∧∃ g cap,e=.returned (.slice (some ⟨g,0,none⟩) n cap)∧w2.heap.size≤g∧BO w' g n∧n≤cap
 told:∀ W g n cap,Below W2.heap.size W2 W→BO W g n→n≤16384→n≤cap→Calls Tryd.prog 13 #[.agg #[.slice sa sl sc,.slice ea el ec,.int .i64 rt],.slice (some ⟨g,0,none⟩) n cap] W fun e w'=>e=.returned (.bool true)∧Below W.heap.size W w'
structure WrSt (W:World)(base wk:Nat)(A:Option Addr)(cap:Nat)(sv ev:Value)(root:Int)(zs:List Int):Prop where
 blk:W.heap[wk]?=some (.cells #[sv,ev,.int .i64 root,.slice A zs.length cap] 95 (0,0))
 own:kV W base 5 A cap zs
 rng:∀ z ∈ zs,0≤z∧z≤255
 hb:base≤wk
structure Wx (wk:Nat)(A A':Option Addr)(w w':World):Prop where
 os:w'.os=w.os
 tape:w'.tape=w.tape
 output:w'.output=w.output
 size:w.heap.size≤w'.heap.size
 block:∀ k,k<w.heap.size→k≠wk→some k≠fV A→w'.heap[k]?=w.heap[k]?
 row:fV A'=fV A∨∃ k,fV A'=some k∧w.heap.size≤k
theorem Wx.refl (wk:Nat)(A:Option Addr)(w:World):Wx wk A A w w:=⟨rfl,rfl,rfl,Nat.le_refl _,fun _ _ _ _=>rfl,.inl rfl⟩
theorem Wx.trans {wk:Nat}{A A1 A2:Option Addr}{w w1 w2:World}(h:Wx wk A A1 w w1)(k:Wx wk A1 A2 w1 w2):Wx wk A A2 w w2:=by
 refine ⟨k.os.trans h.os,k.tape.trans h.tape,k.output.trans h.output,eM h.size k.size,fun i hi h1 h2=>(k.block i (Nat.lt_of_lt_of_le hi h.size) h1 ?_).trans (h.block i hi h1 h2),?_⟩
 · rcases h.row with e|⟨j,e,hj⟩
   · rw [e];exact h2
   · rw [e];intro e2;injection e2 with e2;omega
 · rcases k.row with e|⟨j,e,hj⟩
   · rcases h.row with e'|⟨j,e',hj⟩
     · exact .inl (e.trans e')
     · exact .inr ⟨j,e.trans e',hj⟩
   · exact .inr ⟨j,e,eM h.size hj⟩
theorem Wx.of_below {wk:Nat}(A:Option Addr){w w':World}(h:Below w.heap.size w w'):Wx wk A A w w':=⟨h.os,h.tape,h.output,h.size,fun k hk _ _=>h.block k hk,.inl rfl⟩
theorem Wx.cell {wk:Nat}{A A':Option Addr}{w w':World}(h:Wx wk A A' w w'){p:Addr}{v:Value}(hp:w.cell? p=some v)(h1:p.block≠wk)(h2:some p.block≠fV A):w'.cell? p=some v:=
 (World.cell?_of_block (h.block p.block (World.block_lt_of_cell? w p hp) h1 h2)).trans hp
theorem Wx.blk {wk g:Nat}{A A':Option Addr}{w w':World}{o:Obj}(h:Wx wk A A' w w')(hg:w.heap[g]?=some o)(hl:g<w.heap.size)(h1:g≠wk)(h2:some g≠fV A):w'.heap[g]?=some o:=(h.block g hl h1 h2).trans hg
theorem Wx.below {wk base:Nat}{A A':Option Addr}{w w':World}(h:Wx wk A A' w w')(hb:base≤wk)(ha:∀ k,fV A=some k→base≤k)(hB:base≤w.heap.size):Below base w w':=
 ⟨h.os,h.tape,h.output,h.size,fun k hk=>h.block k (by omega) (by omega) (fun e=>by have:=ha k e.symm;omega)⟩
theorem Wx.ownsRow {wk:Nat}{A A':Option Addr}{w w':World}(h:Wx wk A A' w w'){base:Nat}{e:TypeId}{size:Nat}{v:Value}{n:Nat}{xs:List Value}(ho:w.ownsRow base e size v n xs)(h1:v.ownBlock≠some wk)(h2:∀ k,v.ownBlock=some k→some k≠fV A):w'.ownsRow base e size v n xs:=by
 obtain ⟨hl,h3⟩:=ho;refine ⟨hl,?_⟩;rcases h3 with h3|⟨g,cap,cur,rfl,hg,hblk,h4⟩
 · exact .inl h3
 · exact .inr ⟨g,cap,cur,rfl,hg,h.blk hblk (aD hblk) (fun e=>h1 (by rw [e];rfl)) (h2 g rfl),h4⟩
section
variable {w:World} {base wk:Nat} {A:Option Addr} {cap:Nat} {sv ev:Value} {root:Int} {zs:List Int}
theorem WrSt.below {w':World}(h:WrSt w base wk A cap sv ev root zs)(hb:Below w.heap.size w w'):WrSt w' base wk A cap sv ev root zs:=
 ⟨aE h.blk hb (aD h.blk),bE hb h.own,h.rng,h.hb⟩
theorem WrSt.ne (h:WrSt w base wk A cap sv ev root zs):fV A≠some wk:=by have h1:=gH h.own h.blk (by decide);rw [dI] at h1;exact h1
theorem WrSt.row (h:WrSt w base wk A cap sv ev root zs):∀ k,fV A=some k→base≤k∧k<w.heap.size:=fun k hk=>aV h.own k (by rw [dI];exact hk)
theorem WrSt.few (h:WrSt w base wk A cap sv ev root zs):zs.length≤cap:=by have h1:=pT (show w.ownsRow base 5 1 (.slice A zs.length cap) zs.length (eI zs) from h.own);exact h1
theorem yW {zs:List Int}(h:∀ z ∈ zs,0≤z∧z≤255)(a:Nat)(n:Int):∀ k,∀ z ∈ dP zs a n k,0≤z∧z≤255
 | 0,z,hz=>h z hz
 | k+1,z,hz=>by
  rcases List.mem_or_eq_of_mem_set hz with h1|h1
  · exact yW h a n k z h1
  · subst h1;exact vP n k
theorem lV {s:Nat}{z:Int}(hz:z ∈ aR s):z=0:=(List.mem_replicate.1 hz).2
theorem aDW (s:Nat)(n:Int):∀ z ∈ dP (aR s) 0 n s,0≤z∧z≤255:=yW (fun z hz=>by rw [lV hz];decide) 0 n s
theorem aCZ {W:World}{b:Nat}{e:TypeId}{g n c:Nat}{ys:List Int}(h:OwnR W b e g n c ys):SrcRow W (some ⟨g,0,none⟩) n c (eI ys):=by
 have hf:=h.facts;refine ⟨by simp [eI,hf.1],fun u hu=>?_,.inr ⟨_,rfl,fun j u hj=>?_⟩⟩
 · obtain ⟨z,_,rfl⟩:=rX.1 hu;rfl
 · have hjl:j<ys.length:=by
    rcases Nat.lt_or_ge j ys.length with h1|h1
    · exact h1
    · rw [List.getElem?_eq_none (by simpa [eI] using h1)] at hj;cases hj
   have h1:=hf.2.2.2.2.2.1 j hjl;rw [show eI ys=ys.map (.int .u8) from rfl,List.getElem?_map,iO hjl] at hj;injection hj with hj;subst hj;rw [List.getD,iO hjl,Option.getD_some] at h1;rw [show (⟨g,0,none⟩:Addr).add j=⟨g,j,none⟩ from by cases j<;>simp [Addr.add]];exact h1
theorem wQ {W:World}{b:Nat}{e:TypeId}{g1 g n c j:Nat}{u:Value}{ys:List Int}(h:OwnR W b e g1 n c ys)(hne:g≠g1):OwnR (W.setCell ⟨g,j,none⟩ u) b e g1 n c ys:=
 ((Exw.refl g g _ W).setCell (p:=⟨g,j,none⟩) (.inl rfl) u).ownsRow h (fun e=>by injection e with e;exact hne e.symm) (fun e=>by injection e with e;exact hne e.symm)
def dR (r:Value)(base wk:Nat)(A:Option Addr)(sv ev:Value)(root:Int)(zs':List Int)(w:World)(e:Ending)(w':World):Prop:=e=.returned r∧∃ A' cap',WrSt w' base wk A' cap' sv ev root zs'∧Wx wk A A' w w'
theorem tG {W7 W8:World}(h:WrSt w base wk A cap sv ev root zs)(h7:Below w.heap.size w W7)(hg:W7.grownBy W8 (fV A)){v4:Value}{news:List Int}(ho:W8.ownsRow base 5 1 v4 (zs.length+news.length) (eI (zs++news)))(hrow:v4.ownBlock=fV A∨v4.ownBlock=some W7.heap.size)(hr:∀ z ∈ news,0≤z∧z≤255) :
  ∃ A' cap',v4=.slice A' (zs.length+news.length) cap'∧W8.heap[wk]?=some (.cells #[sv,ev,.int .i64 root,.slice A zs.length cap] 95 (0,0))∧WrSt (W8.setCell ⟨wk,3,none⟩ v4) base wk A' cap' sv ev root (zs++news)∧Wx wk A A' w (W8.setCell ⟨wk,3,none⟩ v4):=by
 obtain ⟨A',cap',rfl⟩:=aJ ho;have hwl:=aD h.blk;have hs7:=h7.size;have hs8:=hg.size;have h8:W8.heap[wk]?=some (.cells #[sv,ev,.int .i64 root,.slice A zs.length cap] 95 (0,0)):=(hg.block wk (by omega) (fun e=>h.ne e.symm)).trans (aE h.blk h7 hwl);rw [dI] at hrow;have hne:(Value.slice A' (zs.length+news.length) cap').ownBlock≠some wk:=by
  rw [dI];rcases hrow with e|e
  · rw [e];exact h.ne
  · rw [e];intro e2;injection e2 with e2;omega
 refine ⟨A',cap',rfl,h8,⟨?_,?_,?_,h.hb⟩,⟨?_,?_,?_,?_,?_,?_⟩⟩
 · rw [List.length_append];exact (aN h8 3 _).trans rfl
 · unfold kV;rw [List.length_append];exact ((Exw.refl wk wk _ W8).setCell (p:=⟨wk,3,none⟩) (.inl rfl) _).ownsRow ho hne hne
 · intro z hz;rcases List.mem_append.1 hz with h1|h1
   · exact h.rng z h1
   · exact hr z h1
 · exact hg.os.trans h7.os
 · exact hg.tape.trans h7.tape
 · exact hg.output.trans h7.output
 · simp [World.setCell];omega
 · intro k hk h1 h2;exact (oG _ _ _ _ (by show k≠wk;exact h1)).trans ((hg.block k (by omega) h2).trans (h7.block k hk))
 · rcases hrow with e|e
   · exact .inl e
   · exact .inr ⟨_,e,hs7⟩
theorem pZ {W7 W8:World}(h:WrSt w base wk A cap sv ev root zs)(h7:Below w.heap.size w W7){v:Value}{n n4:Nat}(hv:v=.slice A n cap)(hg:W7.grownBy W8 v.ownBlock){v4:Value}{news:List Int}(hn4:zs.length+news.length=n4)(ho:W8.ownsRow base 5 1 v4 n4 (eI (zs++news)))(hrow:v4.ownBlock=v.ownBlock∨v4.ownBlock=some W7.heap.size)(hr:∀ z ∈ news,0≤z∧z≤255) :
  ∃ A' cap',v4=.slice A' n4 cap'∧W8.heap[wk]?=some (.cells #[sv,ev,.int .i64 root,.slice A zs.length cap] 95 (0,0))∧WrSt (W8.setCell ⟨wk,3,none⟩ v4) base wk A' cap' sv ev root (zs++news)∧Wx wk A A' w (W8.setCell ⟨wk,3,none⟩ v4):=by
 subst hv hn4;rw [dI] at hg hrow;exact tG h h7 hg ho hrow hr
theorem aFX {W7:World}{g:Nat}(h:WrSt w base wk (some ⟨g,0,none⟩) cap sv ev root zs)(h7:Below w.heap.size w W7)(j:Nat)(b:Int)(hb:0≤b∧b≤255) :
  WrSt (W7.setCell ⟨g,j,none⟩ (.int .u8 b)) base wk (some ⟨g,0,none⟩) cap sv ev root (zs.set j b)∧Wx wk (some ⟨g,0,none⟩) (some ⟨g,0,none⟩) w (W7.setCell ⟨g,j,none⟩ (.int .u8 b)):=by
 have h2:=h.below h7;have hgw:g≠wk:=fun e=>h.ne (by rw [e];rfl);have hs7:=h7.size;refine ⟨⟨?_,?_,?_,h.hb⟩,⟨h7.os,h7.tape,h7.output,by simp [World.setCell];omega,fun k hk h1 h3=>?_,.inl rfl⟩⟩
 · rw [List.length_set];exact (oG _ _ _ _ (by show wk≠g;exact fun e=>hgw e.symm)).trans h2.blk
 · unfold kV;rw [List.length_set];exact OwnR.set (show OwnR W7 base 5 g zs.length cap zs from h2.own) j b
 · intro z hz;rcases List.mem_or_eq_of_mem_set hz with h1|h1
   · exact h.rng z h1
   · subst h1;exact hb
 · exact (oG _ _ _ _ (by show k≠g;exact fun e=>h3 (by rw [e];rfl))).trans (h7.block k hk)
theorem WrSt.addr (h:WrSt w base wk A cap sv ev root zs)(hz:0<zs.length):∃ g,A=some ⟨g,0,none⟩∧g<w.heap.size∧(∀ i,i<zs.length→w.cell? ⟨g,i,none⟩=some (.int .u8 (zs.getD i 0)))∧(∀ i,w.frozen? ⟨g,i,none⟩=false):=by
 have h0:=h.own;obtain ⟨hl,h1⟩:=h.own;rcases h1 with ⟨h1,h2⟩|⟨g,cap',cur,h1,h2⟩
 · omega
 · injection h1 with h1 _ _;subst h1;have hf:=OwnR.facts (show OwnR w base 5 g zs.length cap zs from h0);exact ⟨g,rfl,hf.2.2.1,hf.2.2.2.2.2.1,hf.2.2.2.2.2.2⟩
end
end Go.Proofs.YtpbaaiilfkacnaaDoor
