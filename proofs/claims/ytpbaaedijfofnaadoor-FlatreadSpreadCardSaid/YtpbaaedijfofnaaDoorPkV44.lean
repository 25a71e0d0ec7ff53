/-
  Messages of tables, plain: what is laid leaves what stands elsewhere (every type, every depth); what a table's list says. No run of the program stands in this text. Conditions: those that each theorem names.
-/
import Derived.Test.YtpbaaedijfofnaaDoorPkV5
import Derived.Test.YtpbaaedijfofnaaDoorPkV8
import Derived.Test.YtpbaaedijfofnaaDoorPkV9
import Derived.Test.YtpbaaedijfofnaaDoorPkV12
import Derived.Test.YtpbaaedijfofnaaDoorPkV32
import Derived.Test.YtpbaaedijfofnaaDoorPkV34
import Derived.Test.YtpbaaedijfofnaaDoorPkV36
import Derived.Test.YtpbaaedijfofnaaDoorPkV39
namespace Go.Proofs.YtpbaaedijfofnaaDoor
open Go.ChangeShapes Go.WideShapes Go.ChangeAt Go.RowKit Go.Shelf
structure F5 where
 a:Value
 b:Value
 c:Value
 d:Value
 e:Value
def f5Cells (x:F5):List Value:=[x.a,x.b,x.c,x.d,x.e]
def f5s (l:List F5):List Value:=l.flatMap f5Cells
def mf5 (f:CFld):F5:=⟨.int .u8 f.kind,.int .i64 f.ref,.int .i64 f.lists,.int .i64 (inlC f.kind f.lists),.int .u64 f.dflt⟩
def zero5:F5:=⟨.int .u8 0,.int .i64 0,.int .i64 0,.int .i64 0,.int .u64 0⟩
theorem f5s_mf (l:List CFld):f5s (l.map mf5)=mfldsCells l:=by
 unfold f5s mfldsCells
 rw [List.flatMap_map]
 rfl
theorem f5s_len (l:List F5):(f5s l).length=l.length * 5:=by
 induction l with
 | nil=>rfl
 | cons a r ih =>
  have e:f5s (a::r)=f5Cells a++f5s r:=rfl
  have e4:(f5Cells a).length=5:=rfl
  rw [e,List.length_append,ih,e4,List.length_cons]
  omega
theorem f5s_at (l:List F5)(k:Nat)(hk:k<l.length)(j:Nat)(hj:j<5):(f5s l)[k * 5+j]?=(f5Cells l[k])[j]?:=flat_at f5Cells 5 (fun _=>rfl) l k hk j hj
theorem f5s_set:∀ (l:List F5) (i:Nat) (q:F5),i<l.length→(((((f5s l).set (i * 5) q.a).set (i * 5+1) q.b).set (i * 5+2) q.c).set (i * 5+3) q.d).set (i * 5+4) q.e=f5s (l.set i q)
 | [],_,_,h=>absurd h (Nat.not_lt_zero _)
 | p::l,0,q,_=>rfl
 | p::l,i+1,q,h=>by
  have ih:=f5s_set l i q (by simpa using h)
  show (((((p.a::p.b::p.c::p.d::p.e::f5s l).set ((i+1) * 5) q.a).set ((i+1) * 5+1) q.b).set ((i+1) * 5+2) q.c).set ((i+1) * 5+3) q.d).set ((i+1) * 5+4) q.e=p.a::p.b::p.c::p.d::p.e::f5s (l.set i q)
  rw [show (i+1) * 5=i * 5+5 by omega,show i * 5+5+1=i * 5+1+5 by omega,show i * 5+5+2=i * 5+2+5 by omega,show i * 5+5+3=i * 5+3+5 by omega,show i * 5+5+4=i * 5+4+5 by omega]
  simp only [List.set_cons_succ]
  rw [ih]
theorem fld_info:(Tryd.prog.info? 175).map (fun i=>(i.zero,i.size,i.bytes))=some (some (.agg #[.int .u8 0,.int .i64 0,.int .i64 0,.int .i64 0,.int .u64 0]),5,40):=by kernel_rfl
theorem made_f5s (n:Nat):madeCells (Value.agg #[.int .u8 0,.int .i64 0,.int .i64 0,.int .i64 0,.int .u64 0]).cells (n * 5)=(f5s (List.replicate n zero5)).toArray:=by
 apply Array.ext'
 apply List.ext_getElem?
 intro k
 have hrow:(f5s (List.replicate n zero5)).length=n * 5:=by rw [f5s_len,List.length_replicate]
 simp only [madeCells,Array.toList_map,Array.toList_range,List.getElem?_map]
 by_cases hk:k<n * 5
 · have h1:(f5s (List.replicate n zero5))[(k / 5) * 5+k % 5]?=_:=f5s_at (List.replicate n zero5) (k / 5) (by rw [List.length_replicate];omega) (k % 5) (by omega)
   rw [show (k / 5) * 5+k % 5=k by omega,List.getElem_replicate] at h1
   rw [List.getElem?_range hk,Option.map_some,h1]
   show some ((#[Value.int .u8 0,.int .i64 0,.int .i64 0,.int .i64 0,.int .u64 0])[k % 5]!)=_
   have h4:k % 5=0∨k % 5=1∨k % 5=2∨k % 5=3∨k % 5=4:=by omega
   rcases h4 with h|h|h|h|h<;>rw [h]<;>rfl
 · rw [List.getElem?_eq_none (by rw [List.length_range];omega),List.getElem?_eq_none (by rw [hrow];omega)]
   rfl
theorem make_flds (n:Nat)(hn:n≤1000000)(W:World):(Instr.makeSlice 172 (.int .i64 (n:Int)) (.int .i64 (n:Int))).run Tryd.prog W=.ok (.slice (some ⟨W.heap.size,0,none⟩) n n) (W.alloc (.cells (f5s (List.replicate n zero5)).toArray 175)):=by
 obtain ⟨i,hi,hz,hs,hb⟩:=info_parts fld_info
 have h:=run_make W 172 175 i (.agg #[.int .u8 0,.int .i64 0,.int .i64 0,.int .i64 0,.int .u64 0]) Tryd.underlying172 hi hz .i64 .i64 n n (by omega) (Int.le_refl _) (by rw [hb];omega) (by omega)
 rw [hs,Int.toNat_natCast,made_f5s] at h
 exact h
theorem inlC_inlP (f:SFld):inlP f=inlC f.kind (f.lists:Nat):=by
 unfold inlP inlC isNumP numTB
 by_cases h1:f.lists=0
 · by_cases h2:0<kSize f.kind<;>simp [h1,h2]
 · simp [h1]
theorem take_put (xs:List CFld)(j:Nat)(hj:j<xs.length):((xs.take j).map mf5++List.replicate (xs.length-j) zero5).set j (mf5 xs[j])=(xs.take (j+1)).map mf5++List.replicate (xs.length-(j+1)) zero5:=by
 have hl:((xs.take j).map mf5).length=j:=by rw [List.length_map,List.length_take];omega
 rw [List.set_append_right _ _ (by rw [hl];exact Nat.le_refl _),hl,Nat.sub_self,show xs.length-j=(xs.length-(j+1))+1 by omega,List.replicate_succ,List.set_cons_zero,List.take_succ_eq_append_getElem hj,List.map_append,List.append_assoc]
 rfl
theorem f5_put {W:World}{K j:Nat}{l:List F5}{t:TypeId}(h:W.heap[K]?=some (.cells (f5s l).toArray t (0,0)))(hj:j<l.length)(q:F5) :
  (((((W.setCell ⟨K,j * 5,none⟩ q.a).setCell ⟨K,j * 5+1,none⟩ q.b).setCell ⟨K,j * 5+2,none⟩ q.c).setCell ⟨K,j * 5+3,none⟩ q.d).setCell ⟨K,j * 5+4,none⟩ q.e).heap[K]?=some (.cells (f5s (l.set j q)).toArray t (0,0)):=by
 have h5:=blk_set (blk_set (blk_set (blk_set (blk_set h (j * 5) q.a) (j * 5+1) q.b) (j * 5+2) q.c) (j * 5+3) q.d) (j * 5+4) q.e
 rw [h5,←f5s_set l j q hj]
 simp
end Go.Proofs.YtpbaaedijfofnaaDoor
namespace Go.Proofs.YtpbaaedijfofnaaDoor
open Go.ChangeShapes Go.WideShapes Go.ChangeAt Go.RowKit Go.Shelf
theorem field_eq {zs:List Int}{f:NextD}{xs:List SFld}{to:Int}{t:TabZ}{j:Nat}(hj:j<xs.length)(l:Int):fieldZ zs f (xs.map cF) to t j l=if offZ zs t j=0 then some (numV xs[j].dflt,l) else if offZ zs t j<4∨t.own<offZ zs t j+inlC xs[j].kind (xs[j].lists:Nat) then none else f xs[j].kind (xs[j].ref:Nat) (xs[j].lists:Nat) (to+offZ zs t j) l:=by
 unfold fieldZ
 rw [List.getElem?_map,List.getElem?_eq_getElem hj]
 rfl
end Go.Proofs.YtpbaaedijfofnaaDoor
namespace Go.Proofs.YtpbaaedijfofnaaDoor
open Go.RowKit
theorem getD_appL {zs ys:List Int}{i:Nat}(h:i<zs.length):(zs++ys).getD i 0=zs.getD i 0:=by
 rw [List.getD,List.getD,List.getElem?_append_left h]
theorem getD_appR {zs ys:List Int}{i:Nat}:(zs++ys).getD (zs.length+i) 0=ys.getD i 0:=by
 rw [List.getD,List.getD,List.getElem?_append_right (by omega),Nat.add_sub_cancel_left]
theorem leAt_app {zs ys:List Int}(a n:Nat):leAt (zs++ys) (zs.length+a) n=leAt ys a n:=leNum_congr _ _ _ (fun j _=>by rw [Nat.add_assoc];exact getD_appR)
theorem leAt_ag {Z z:List Int}{p n:Nat}(h:∀ i,p≤i→i<p+n→Z.getD i 0=z.getD i 0):leAt Z p n=leAt z p n:=leNum_congr _ _ _ (fun j hj=>h (p+j) (by omega) (by omega))
theorem set_keep {zs:List Int}{a s i:Nat}{n:Int}(h:a+s≤zs.length)(hi:¬(a≤i∧i<a+s)):(setE a s n zs).getD i 0=zs.getD i 0:=by
 unfold setE
 rw [laidOver_get zs a n s i h,if_neg hi]
theorem put_keep {zs:List Int}{s i:Nat}{n:Int}(h:i<zs.length):(putE s n zs).getD i 0=zs.getD i 0:=getD_appL h
theorem pad_keep {zs:List Int}{m i:Nat}(h:i<zs.length):(padE m zs).getD i 0=zs.getD i 0:=getD_appL h
theorem put2_at (zs:List Int)(n:Nat)(h:n<65536):leAt (putE 2 (n:Int) zs) zs.length 2=n:=by
 unfold putE
 have h1:=leAt_app (zs:=zs) (ys:=laidOver (zeros 2) 0 (n:Int) 2) 0 2
 rw [Nat.add_zero] at h1
 rw [h1,leAt_laid2 _ _ _ (by omega) (by decide)]
 omega
theorem put4_at (zs:List Int)(n:Nat)(h:n<4294967296):leAt (putE 4 (n:Int) zs) zs.length 4=n:=by
 unfold putE
 have h1:=leAt_app (zs:=zs) (ys:=laidOver (zeros 4) 0 (n:Int) 4) 0 4
 rw [Nat.add_zero] at h1
 rw [h1,leAt_laid4 _ _ _ (by omega) (by decide)]
 omega
theorem set4_at (zs:List Int)(a n:Nat)(ha:a+4≤zs.length)(h:n<4294967296):leAt (setE a 4 (n:Int) zs) a 4=n:=by
 unfold setE
 rw [leAt_laid4 _ _ _ (by omega) ha]
 omega
theorem seq_keep {f:Nat→List Int→List Int}{p w:Nat→Nat}{z0:List Int}{n:Nat}(hg:∀ i zs,zs.length≤(f i zs).length)(hk:∀ j,j<n→∀ ys:List Int,z0.length≤ys.length→∀ i,i<ys.length→¬(p j≤i∧i<p j+w j)→(f j ys).getD i 0=ys.getD i 0)(m:Nat) :
  ∀ m',m≤m'→m'≤n→∀ i,i<(seqE f z0 m).length→(∀ j,m≤j→j<m'→¬(p j≤i∧i<p j+w j))→(seqE f z0 m').getD i 0=(seqE f z0 m).getD i 0
 | 0,h1,_,i,_,_=>by
  obtain rfl:m=0:=by omega
  rfl
 | m'+1,h1,h2,i,hi,hd=>by
  rcases Nat.lt_or_ge m' m with h3|h3
  · obtain rfl:m=m'+1:=by omega
    rfl
  · have ih:=seq_keep hg hk m m' h3 (by omega) i hi (fun j hj1 hj2=>hd j hj1 (by omega))
    have hl:=seqE_upto hg z0 m m' h3
    have hl0:=seqE_le hg z0 m'
    show (f m' (seqE f z0 m')).getD i 0=_
    rw [hk m' (by omega) _ hl0 i (by omega) (hd m' h3 (by omega))]
    exact ih
theorem seq_back {g:Nat→List Int→List Int}{p w:Nat→Nat}{y0 Z:List Int}{n:Nat}{rd:Nat→Int→Option (PV × Int)}{vs:List PV}(hvs:vs.length=n)(hg:∀ i zs,zs.length≤(g i zs).length)
  (hk:∀ j,j<n→∀ ys:List Int,y0.length≤ys.length→∀ i,i<ys.length→¬(p j≤i∧i<p j+w j)→(g j ys).getD i 0=ys.getD i 0)
  (hZ:∀ i,y0.length≤i→i<(seqE g y0 n).length→Z.getD i 0=(seqE g y0 n).getD i 0) (hZp:∀ j,j<n→∀ i,p j≤i→i<p j+w j→Z.getD i 0=(seqE g y0 n).getD i 0)
  (hpw:∀ j,j<n→p j+w j≤y0.length) (hdis:∀ j t,j<t→t<n→∀ i,p j≤i→i<p j+w j→¬(p t≤i∧i<p t+w t))
  (hlen:(seqE g y0 n).length≤Z.length)
  (hrd:∀ j (hj:j<vs.length) (ys:List Int),y0.length≤ys.length→(∀ i,(p j≤i∧i<p j+w j)∨(ys.length≤i∧i<(g j ys).length)→Z.getD i 0=(g j ys).getD i 0)→(g j ys).length≤Z.length→∀ left:Int,(((g j ys).length-ys.length:Nat):Int)≤left→∃ l',left-(((g j ys).length-ys.length:Nat):Int)≤l'∧l'≤left∧rd j left=some (vs[j],l'))
  (left:Int):∀ m,m≤n→(((seqE g y0 m).length-y0.length:Nat):Int)≤left→∃ l',left-(((seqE g y0 m).length-y0.length:Nat):Int)≤l'∧l'≤left∧seqD rd left m=some (vs.take m,l')
 | 0,_,_=>⟨left,by omega,Int.le_refl _,rfl⟩
 | m+1,hm,hl=>by
  have h0:=seqE_le hg y0 m
  have h1:(seqE g y0 m).length≤(seqE g y0 (m+1)).length:=hg m _
  have h2:=seqE_upto hg y0 (m+1) n hm
  obtain ⟨l1,ha,hb,hc⟩:=seq_back hvs hg hk hZ hZp hpw hdis hlen hrd left m (by omega) (by omega)
  have hag:∀ i,(p m≤i∧i<p m+w m)∨((seqE g y0 m).length≤i∧i<(g m (seqE g y0 m)).length)→Z.getD i 0=(g m (seqE g y0 m)).getD i 0:=fun i hi=>by
   have h5:=hpw m (by omega)
   have hi2:i<(seqE g y0 (m+1)).length:=by
    rcases hi with hi|hi
    · omega
    · exact hi.2
   have h3:(seqE g y0 n).getD i 0=(seqE g y0 (m+1)).getD i 0:=seq_keep hg hk (m+1) n hm (Nat.le_refl _) i hi2 (fun t ht1 ht2=>by
    rcases hi with hi|hi
    · exact hdis m t (by omega) ht2 i hi.1 hi.2
    · have:=hpw t ht2;omega)
   show Z.getD i 0=(seqE g y0 (m+1)).getD i 0
   rw [←h3]
   rcases hi with hi|hi
   · exact hZp m (by omega) i hi.1 hi.2
   · exact hZ i (by omega) (by omega)
  obtain ⟨l2,hd,he,hf⟩:=hrd m (by omega) (seqE g y0 m) h0 hag (Nat.le_trans h2 hlen) l1 (by
   show (((seqE g y0 (m+1)).length-(seqE g y0 m).length:Nat):Int)≤l1
   omega)
  have hd':l1-(((seqE g y0 (m+1)).length-(seqE g y0 m).length:Nat):Int)≤l2:=hd
  refine ⟨l2,by omega,by omega,?_⟩
  rw [seqD_succ hc,hf,List.take_add_one,List.getElem?_eq_getElem (show m<vs.length by omega)]
  rfl
theorem inl_nn (k:Nat)(lists:Int):0≤inlC k lists∧inlC k lists≤8:=by
 have:=step_bd k lists
 have h:inlC k lists=stepZ k lists:=rfl
 omega
def FrameE (nx:NextE):Prop:=∀ k ref lists v a zs,0≤lists→a+(inlC k lists).toNat≤zs.length→∀ i,i<zs.length→¬(a≤i∧i<a+(inlC k lists).toNat)→(nx k ref lists v a zs).getD i 0=zs.getD i 0
structure TabL (S:List SRec)(nx:NextE)(fs:List SFld)(ks:List PV)(a:Nat)(zs:List Int)(th:List Bool)(last size T L0:Nat)(z2 z4:List Int)(f:Nat→List Int→List Int):Prop where
 hth:thereE fs ks=th
 hlast:lastE th fs.length=last
 hsize:(tabAll fs th 4).size=size
 hL0:(padE 2 zs).length=L0
 hT:(padE (tabAll fs th 4).al.toNat (headE fs th zs)).length=T
 hz2:putE 4 ((T:Int)-(L0:Int)) (padE (tabAll fs th 4).al.toNat (headE fs th zs))=z2
 hz4:setE a 4 ((T:Int)-a) z2++zeros (T+size-(setE a 4 ((T:Int)-a) z2).length)=z4
 hf:(fun i=>kidE (th.getD i false) (nx (fs.getD i ⟨⟨#[]⟩,0,0,0,0⟩).kind (fs.getD i ⟨⟨#[]⟩,0,0,0,0⟩).ref (fs.getD i ⟨⟨#[]⟩,0,0,0,0⟩).lists (ks.getD i (numV 0)) (T+((tabAll fs th 4).pl.getD i 0).toNat)))=f
theorem tabL_of (S:List SRec)(nx:NextE)(ref:Int)(v:PV)(a:Nat)(zs:List Int):∃ th last size T L0 z2 z4 f,TabL S nx (recE S ref).fields v.kids a zs th last size T L0 z2 z4 f∧tableE S nx ref v a zs=seqE f z4 (recE S ref).fields.length:=by
 have h4:=(tabAll_facts (recE S ref).fields (thereE (recE S ref).fields v.kids) 4 (Nat.le_refl _)).2.1
 obtain ⟨size,hs⟩:∃ size:Nat,(tabAll (recE S ref).fields (thereE (recE S ref).fields v.kids) 4).size=size:=⟨_,(Int.toNat_of_nonneg (by omega)).symm⟩
 refine ⟨_,_,size,_,_,_,_,_,⟨rfl,rfl,hs,rfl,rfl,rfl,rfl,rfl⟩,?_⟩
 simp only [tableE,hs,Int.toNat_natCast]
theorem lastE_no {th:List Bool}:∀ {n j:Nat},lastE th n≤j→j<n→th.getD j false=false
 | 0,j,_,h=>absurd h (Nat.not_lt_zero _)
 | n+1,j,h,hj=>by
  rw [lastE_up] at h
  split at h
  · omega
  · rename_i hb
    rcases Nat.lt_or_ge j n with h1|h1
    · exact lastE_no h h1
    · obtain rfl:j=n:=by omega
      simpa using hb
end Go.Proofs.YtpbaaedijfofnaaDoor
namespace Go.Proofs.YtpbaaedijfofnaaDoor
open Go.RowKit
theorem inl_num {k:Nat}{lists:Int}(h:numTB k lists=true):inlC k lists=kSize k:=by unfold inlC;rw [if_pos h]
theorem inl_four {k:Nat}{lists:Int}(h:¬numTB k lists=true):inlC k lists=4:=by unfold inlC;rw [if_neg h]
theorem puts_len (g:Nat→Int)(ys:List Int):∀ n,(seqE (fun i=>putE 2 (g i)) ys n).length=ys.length+2 * n
 | 0=>rfl
 | n+1=>by
  show (putE 2 _ (seqE _ ys n)).length=_
  rw [putE_length,puts_len g ys n]
  omega
theorem puts_keep (g:Nat→Int)(ys:List Int){i:Nat}(hi:i<ys.length):∀ n,(seqE (fun i=>putE 2 (g i)) ys n).getD i 0=ys.getD i 0
 | 0=>rfl
 | n+1=>by
  show (putE 2 _ (seqE _ ys n)).getD i 0=_
  rw [put_keep (by rw [puts_len];omega),puts_keep g ys hi n]
theorem put2_int (zs:List Int)(n:Int)(h0:0≤n)(h:n<65536):leAt (putE 2 n zs) zs.length 2=n:=by
 obtain ⟨m,rfl⟩:=Int.eq_ofNat_of_zero_le h0
 exact put2_at zs m (by omega)
theorem puts_at (g:Nat→Int)(ys:List Int){j:Nat}(h0:0≤g j)(h1:g j<65536):∀ n,j<n→leAt (seqE (fun i=>putE 2 (g i)) ys n) (ys.length+2 * j) 2=g j
 | 0,h=>absurd h (Nat.not_lt_zero _)
 | n+1,h=>by
  show leAt (putE 2 (g n) (seqE (fun i=>putE 2 (g i)) ys n)) _ 2=_
  have hl:=puts_len g ys n
  rcases Nat.lt_or_ge j n with h2|h2
  · rw [leAt_ag (z:=seqE (fun i=>putE 2 (g i)) ys n) (fun i _ hi=>put_keep (by omega))]
    exact puts_at g ys h0 h1 n h2
  · obtain rfl:n=j:=by omega
    rw [show ys.length+2 * n=(seqE (fun i=>putE 2 (g i)) ys n).length by omega]
    exact put2_int _ _ h0 h1
theorem headE_says (fs:List SFld)(th:List Bool)(zs:List Int)(hs:(tabAll fs th 4).size<65536)(hl:4+2 * lastE th fs.length<65536) :
  (∀ i,i<zs.length→(headE fs th zs).getD i 0=zs.getD i 0)∧leAt (headE fs th zs) (padE 2 zs).length 2=4+2 * (lastE th fs.length:Int)∧leAt (headE fs th zs) ((padE 2 zs).length+2) 2=(tabAll fs th 4).size ∧
  ∀ j,j<lastE th fs.length→leAt (headE fs th zs) ((padE 2 zs).length+4+2 * j) 2=(tabAll fs th 4).pl.getD j 0:=by
 have h4:=(tabAll_facts fs th 4 (Nat.le_refl _)).2.1
 have hp:=padE_le 2 zs
 have hp1:=putE_length 2 (4+2 * (lastE th fs.length:Int)) (padE 2 zs)
 have hp2:=putE_length 2 (tabAll fs th 4).size (putE 2 (4+2 * (lastE th fs.length:Int)) (padE 2 zs))
 unfold headE
 refine ⟨fun i hi=>?_,?_,?_,fun j hj=>?_⟩
 · rw [puts_keep _ _ (by omega),put_keep (by omega),put_keep (by omega),pad_keep hi]
 · rw [leAt_ag (z:=putE 2 (4+2 * (lastE th fs.length:Int)) (padE 2 zs)) (fun i h1 h2=>by rw [puts_keep _ _ (by omega),put_keep (by omega)])]
   exact put2_int _ _ (by omega) (by omega)
 · rw [leAt_ag (z:=putE 2 (tabAll fs th 4).size (putE 2 (4+2 * (lastE th fs.length:Int)) (padE 2 zs))) (fun i h1 h2=>by rw [puts_keep _ _ (by omega)])]
   rw [show (padE 2 zs).length+2=(putE 2 (4+2 * (lastE th fs.length:Int)) (padE 2 zs)).length by omega]
   exact put2_int _ _ (by omega) hs
 · have hj':j<fs.length:=Nat.lt_of_lt_of_le hj (lastE_le th _)
   have h5:=tab_place fs th j hj'
   rw [show (padE 2 zs).length+4+2 * j=(putE 2 (tabAll fs th 4).size (putE 2 (4+2 * (lastE th fs.length:Int)) (padE 2 zs))).length+2 * j by omega]
   exact puts_at _ _ h5.1 (by omega) _ hj
theorem head_keep (fs:List SFld)(th:List Bool)(zs:List Int){i:Nat}(hi:i<zs.length):(headE fs th zs).getD i 0=zs.getD i 0:=by
 have hp:=padE_le 2 zs
 have hp1:=putE_length 2 (4+2 * (lastE th fs.length:Int)) (padE 2 zs)
 have hp2:=putE_length 2 (tabAll fs th 4).size (putE 2 (4+2 * (lastE th fs.length:Int)) (padE 2 zs))
 unfold headE
 rw [puts_keep _ _ (by omega),put_keep (by omega),put_keep (by omega),pad_keep hi]
theorem listE_of (nx:NextE)(k:Nat)(ref lists:Int)(v:PV)(a:Nat)(zs:List Int)(ha:a+4≤zs.length):∃ (T:Nat) (z4:List Int),zs.length≤T∧T+4+(stepZ k lists).toNat * v.kids.length=z4.length∧(∀ i,i<zs.length→¬(a≤i∧i<a+4)→z4.getD i 0=zs.getD i 0) ∧
  (z4.length<4294967296→leAt z4 a 4=(T:Int)-a∧leAt z4 T 4=(v.kids.length:Nat))∧listE nx k ref lists v a zs=seqE (fun i=>nx k ref lists (v.kids.getD i (numV 0)) (T+4+i * (stepZ k lists).toNat)) z4 v.kids.length:=by
 have hp:=padE_le 4 zs
 obtain ⟨z1,hz1,h1,h2⟩:∃ z1:List Int,(if (stepZ k lists).toNat=8∧((padE 4 zs).length+4) % 8≠0 then padE 4 zs++zeros 4 else padE 4 zs)=z1∧zs.length≤z1.length∧∀ i,i<zs.length→z1.getD i 0=zs.getD i 0:=by
  by_cases hc:(stepZ k lists).toNat=8∧((padE 4 zs).length+4) % 8≠0
  · exact ⟨_,if_pos hc,by rw [List.length_append];omega,fun i hi=>by rw [getD_appL (by omega),pad_keep hi]⟩
  · exact ⟨_,if_neg hc,hp,fun i hi=>pad_keep hi⟩
 have hl2:(setE a 4 ((z1.length:Int)-a) (putE 4 (v.kids.length:Nat) z1)).length=z1.length+4:=by rw [setE_length,putE_length]
 refine ⟨z1.length,setE a 4 ((z1.length:Int)-a) (putE 4 (v.kids.length:Nat) z1)++zeros ((stepZ k lists).toNat * v.kids.length),h1,by rw [List.length_append,hl2,zeros,List.length_replicate],fun i hi hn=>?_,fun hs=>⟨?_,?_⟩,?_⟩
 · rw [getD_appL (by omega),set_keep (by rw [putE_length];omega) hn,put_keep (by omega),h2 i hi]
 · rw [List.length_append,hl2] at hs
   rw [leAt_ag (z:=setE a 4 ((z1.length:Int)-a) (putE 4 (v.kids.length:Nat) z1)) (fun i _ h=>getD_appL (by omega)),show (z1.length:Int)-a=((z1.length-a:Nat):Int) by omega]
   exact set4_at _ _ _ (by rw [putE_length];omega) (by omega)
 · have hk:v.kids.length<4294967296∨(stepZ k lists).toNat=0:=by
    rcases Nat.eq_zero_or_pos (stepZ k lists).toNat with h0|h0
    · exact .inr h0
    · left
      have h3:=Nat.mul_le_mul_right v.kids.length h0
      rw [List.length_append,hl2,zeros,List.length_replicate] at hs
      omega
   have hst:(stepZ k lists).toNat≠0:=by
    unfold stepZ
    by_cases hn:numTB k lists=true
    · rw [if_pos hn]
      have h5:0<kSize k:=by
       unfold numTB at hn
       simp only [Bool.and_eq_true,decide_eq_true_eq] at hn
       exact hn.2
      omega
    · rw [if_neg hn];decide
   rw [leAt_ag (z:=putE 4 (v.kids.length:Nat) z1) (fun i h3 h4=>by rw [getD_appL (by omega),set_keep (by rw [putE_length];omega) (by omega)])]
   exact put4_at _ _ (by rcases hk with hk|hk;exact hk;exact absurd hk hst)
 · simp only [listE,hz1]
theorem step_inl (k:Nat)(lists:Int):stepZ k lists=inlC k lists:=rfl
theorem mul_place {j n s:Nat}(h:j<n):j * s+s≤s * n:=by
 have h1:=Nat.mul_le_mul_right s (show j+1≤n from h)
 rw [Nat.add_mul,Nat.one_mul,Nat.mul_comm n s] at h1
 exact h1
theorem valE_frame {S:List SRec}{nx:NextE}(hg:Grows nx)(hn:FrameE nx):FrameE (valE S nx):=by
 intro k ref lists v a zs h0 ha i hi hd
 unfold valE
 by_cases hnum:numTB k lists=true
 · rw [if_pos hnum]
   rw [inl_num hnum] at ha hd
   exact set_keep ha hd
 rw [if_neg hnum]
 rw [inl_four hnum] at ha hd
 have ha:a+4≤zs.length:=ha
 have hd:¬(a≤i∧i<a+4):=hd
 by_cases hl:0<lists
 · rw [if_pos hl]
   obtain ⟨T,z4,h1,h2,h3,_,h5⟩:=listE_of nx k ref (lists-1) v a zs ha
   rw [h5,seq_keep (p:=fun j=>T+4+j * (stepZ k (lists-1)).toNat) (w:=fun _=>(inlC k (lists-1)).toNat) (z0:=z4) (n:=v.kids.length) (fun i zs=>hg ..) (fun j hj ys hy i hi hd=>?_) 0 _ (Nat.zero_le _) (Nat.le_refl _) i (by show i<z4.length;omega) (fun j _ hj=>by omega)]
   · exact h3 i hi hd
   · have hm:=mul_place (s:=(stepZ k (lists-1)).toNat) hj
     exact hn _ _ _ _ _ ys (by omega) (by rw [←step_inl];omega) i hi hd
 rw [if_neg hl]
 by_cases h13:k=13
 · rw [if_pos h13]
   obtain ⟨th,last,size,T,L0,z2,z4,f,hT,h5⟩:=tabL_of S nx ref v a zs
   rw [h5]
   have hlen:=hT.hT
   have hle:=headE_le (recE S ref).fields th zs
   have hpl:=padE_le (tabAll (recE S ref).fields th 4).al.toNat (headE (recE S ref).fields th zs)
   have hTl:zs.length≤T:=by omega
   have h2l:z2.length=T+4:=by rw [←hT.hz2,putE_length,hlen]
   have h4l:T+size≤z4.length:=by
    rw [←hT.hz4,List.length_append,setE_length,zeros,List.length_replicate]
    omega
   have h4l':T+4≤z4.length:=by
    rw [←hT.hz4,List.length_append,setE_length]
    omega
   rw [←hT.hf,seq_keep (p:=fun j=>T+((tabAll (recE S ref).fields th 4).pl.getD j 0).toNat) (w:=fun j=>(inlC ((recE S ref).fields.getD j ⟨⟨#[]⟩,0,0,0,0⟩).kind ((recE S ref).fields.getD j ⟨⟨#[]⟩,0,0,0,0⟩).lists).toNat) (z0:=z4) (n:=(recE S ref).fields.length) (fun i zs=>by
    show zs.length≤(kidE _ _ zs).length
    unfold kidE;split;exact hg ..;exact Nat.le_refl _) (fun j hj ys hy i hi hd=>?_) 0 _ (Nat.zero_le _) (Nat.le_refl _) i (by show i<z4.length;omega) (fun j _ hj=>by omega)]
   · rw [show seqE _ z4 0=z4 from rfl,←hT.hz4,getD_appL (by rw [setE_length];omega),set_keep (by omega) hd,←hT.hz2,put_keep (by omega),pad_keep (by omega),head_keep _ _ _ hi]
   · show (kidE (th.getD j false) _ ys).getD i 0=_
     cases hb:th.getD j false with
     | false=>rfl
     | true =>
      have h6:=(tab_place (recE S ref).fields th j hj).2.2 hb
      have h7:=inl_same ((recE S ref).fields.getD j noSF)
      have h8:=hT.hsize
      have h6:4≤(tabAll (recE S ref).fields th 4).pl.getD j 0∧(tabAll (recE S ref).fields th 4).pl.getD j 0+inlC ((recE S ref).fields.getD j noSF).kind ((recE S ref).fields.getD j noSF).lists≤(tabAll (recE S ref).fields th 4).size:=by rw [h7];exact h6
      have h9:=inl_nn ((recE S ref).fields.getD j noSF).kind ((recE S ref).fields.getD j noSF).lists
      refine hn _ _ _ _ _ ys (Int.natCast_nonneg _) (Nat.le_trans ?_ hy) i hi hd
      show T+((tabAll (recE S ref).fields th 4).pl.getD j 0).toNat+(inlC ((recE S ref).fields.getD j noSF).kind ((recE S ref).fields.getD j noSF).lists).toNat≤z4.length
      generalize inlC ((recE S ref).fields.getD j noSF).kind ((recE S ref).fields.getD j noSF).lists=W at h6 h9 ⊢
      omega
 · rw [if_neg h13]
   unfold bytesE
   have hp:=padE_le 4 zs
   have hl1:(setE a 4 (((padE 4 zs).length:Int)-a) (putE 4 (v.bytes.length:Nat) (padE 4 zs))).length=(padE 4 zs).length+4:=by rw [setE_length,putE_length]
   rw [getD_appL (by rw [List.length_append];omega),getD_appL (by omega),set_keep (by rw [putE_length];omega) hd,put_keep (by omega),pad_keep hi]
theorem encE_frame (S:List SRec):∀ r,FrameE (encE S r)
 | 0=>fun _ _ _ _ _ _ _ _ _ _ _=>rfl
 | r+1=>valE_frame (encE_grows S r) (encE_frame S r)
end Go.Proofs.YtpbaaedijfofnaaDoor
