/-
  A world in which the listed tables lie as the program's text lays them. No conditions.
-/
import Derived.Test.YtpbaaedijfofnaaDoorPkV1
import Derived.Test.YtpbaaedijfofnaaDoorPkV3
import Derived.Test.YtpbaaedijfofnaaDoorPkV5
import Derived.Test.YtpbaaedijfofnaaDoorPkV6
import Derived.Test.YtpbaaedijfofnaaDoorPkV9
import Derived.Test.YtpbaaedijfofnaaDoorRows
import Derived.WalkKit
import Derived.ProofKit
import Derived.OpenShut
import Derived.ShutString
import Derived.ChangeOld
import Derived.Below
import Derived.Deep.DeepHandedRow
import Derived.Laws.AppendOwn
import Derived.Laws.AppendOwnNone
import Derived.Deep.AppendLies
import Derived.OwnWalk
import Derived.Deep.AppendSrc
import Derived.Laws.MakeOwn
import Derived.WalkLawsBesides
import Derived.WalkSpells
import Derived.Lib.Hide
import Derived.Outline
import Derived.Handy
import Derived.Deep.RegionHeld3
import Derived.Laws.CopyOwn
import Derived.Lib.LaidTab
namespace Go.Proofs.YtpbaaedijfofnaaDoor
open Go.ChangeShapes Go.WideShapes Go.ChangeAt Go.RowKit
theorem own:ownKnob Tryd.prog.godebug=none:=by kernel_rfl
theorem laidOut:laidOutB Tryd.prog=true:=by kernel_rfl
def IsRow (k:IntKind)(w:World)(a:Option Addr)(len cap:Nat)(zs:List Int):Prop:=
 len≤cap∧cap≤maxLen∧zs.length=cap∧(∀ n ∈ zs,(Lit.int k n).wf=true) ∧
 (zs≠[]→∃ b off,a=some ⟨b,off,none⟩∧b<w.heap.size∧∀ j,j<zs.length→w.cell? ⟨b,off+j,none⟩=some (.int k (zs.getD j 0)))
theorem isRow_nil (k:IntKind)(w:World)(a:Option Addr):IsRow k w a 0 0 []:=
 ⟨Nat.le_refl _,Nat.zero_le _,rfl,(fun n h=>by simp at h),(fun h=>absurd rfl h)⟩
theorem isRow_of {k:IntKind}{w:World}{x:Addr}{len cap:Nat}{zs:List Int}(hl:len≤cap)(hm:cap≤maxLen)(hz:zs.length=cap)
  (hc:∀ i,i<zs.length→w.cell? (x.add i)=some (.int k (zs.getD i 0))) (hw:∀ n ∈ zs,(Lit.int k n).wf=true):IsRow k w (some x) len cap zs:=by
 refine ⟨hl,hm,hz,hw,fun hne=>?_⟩
 have h0:0<zs.length:=List.length_pos_iff.2 hne
 obtain ⟨b,off,rfl,hc'⟩:=ints_at hc h0
 exact ⟨b,off,rfl,World.block_lt_of_cell? _ _ (hc' 0 h0),hc'⟩
end Go.Proofs.YtpbaaedijfofnaaDoor
namespace Go.Proofs.YtpbaaedijfofnaaDoor
open Go.ChangeShapes Go.WideShapes Go.ChangeAt Go.RowKit
def SrcRow (w:World)(A:Option Addr)(m c:Nat)(news:List Value):Prop:=
 news.length=m∧(∀ u ∈ news,u.oneCell'=true)∧((A=none∧m=0∧c=0)∨∃ ad,A=some ad∧∀ j u,news[j]?=some u→w.cell? (ad.add j)=some u)
def u8s (zs:List Int):List Value:=zs.map (Value.int .u8)
theorem IsRow.src {w w':World}{a:Option Addr}{len cap:Nat}{zs:List Int}(h:IsRow .u8 w a len cap zs)(hb:Below w.heap.size w w'):SrcRow w' a len cap (u8s (zs.take len)):=by
 obtain ⟨hl,_,hz,_,hp⟩:=h
 refine ⟨by simp [u8s];omega,fun u hu=>?_,?_⟩
 · obtain ⟨z,_,rfl⟩:=List.mem_map.1 hu
   rfl
 · cases a with
   | none =>
    have h0:zs.length=0:=by
     rcases Nat.eq_zero_or_pos zs.length with h|h
     · exact h
     · obtain ⟨_,_,e,_⟩:=hp (by intro h';rw [h'] at h;simp at h)
       cases e
    exact .inl ⟨rfl,by omega,by omega⟩
   | some ad =>
    refine .inr ⟨ad,rfl,fun j u hu=>?_⟩
    have hj:j<len∧j<zs.length:=by
     have:=(List.getElem?_eq_some_iff.1 hu).1
     simp [u8s] at this
     omega
    obtain ⟨b,off,e,hlt,hc⟩:=hp (by intro h;rw [h] at hj;simp at hj)
    injection e with e
    subst e
    have h1:=(hb.cell (p:=⟨b,off+j,none⟩) hlt).trans (hc j hj.2)
    have h2:(u8s (zs.take len))[j]?=some (Value.int .u8 (zs.getD j 0)):=by
     simp [u8s,List.getD,hj.1,hj.2]
    rw [h2] at hu
    rw [Go.WideShapes.add_plain,h1]
    exact hu
def OwnB (w:World)(base:Nat)(v:Value)(zs:List Int):Prop:=
 ∃ g cap,v=.slice (some ⟨g,0,none⟩) zs.length cap∧base≤g∧g<w.heap.size∧zs.length≤cap∧cap≤maxLen∧(∀ i,i<zs.length→w.cell? ⟨g,i,none⟩=some (.int .u8 (zs.getD i 0)))∧(∀ i,w.frozen? ⟨g,i,none⟩=false)
theorem ownB_of_row {w:World}{base:Nat}{v:Value}{n:Nat}{zs:List Int}{e:TypeId}(h:w.ownsRow base e 1 v n (u8s zs))(hne:v≠.slice none 0 0):OwnB w base v zs:=by
 obtain ⟨hl,h'⟩:=h
 rcases h' with ⟨rfl,_⟩|⟨g,cap,cur,rfl,hb,hg,hn,hm,hs,ht⟩
 · exact absurd rfl hne
 · have hn':n=zs.length:=by simpa [u8s] using hl.symm
   subst hn'
   have hlt:g<w.heap.size:=by
    rcases Nat.lt_or_ge g w.heap.size with h|h
    · exact h
    · rw [Array.getElem?_eq_none h] at hg;cases hg
   refine ⟨g,cap,rfl,hb,hlt,hn,hm,fun i hi=>?_,fun i=>?_⟩
   · have h1:(cur.toList.take (zs.length * 1))[i]?=some (Value.int .u8 (zs.getD i 0)):=by
      rw [ht];simp [u8s,List.getD,hi]
     rw [Nat.mul_one,List.getElem?_take,if_pos hi] at h1
     rw [cell_of_row w g i cur e (0,0) hg]
     simpa using h1
   · simp [World.frozen?,hg]
theorem u8_info:(Tryd.prog.info? 5).map (fun i=>(i.zero,i.size,i.bytes))=some (some (.int .u8 0),1,1):=by kernel_rfl
end Go.Proofs.YtpbaaedijfofnaaDoor
namespace Go.Proofs.YtpbaaedijfofnaaDoor
open Go.ChangeShapes Go.WideShapes Go.ChangeAt Go.RowKit
section
variable {P:Program} (w:World)
end
theorem SrcRow.toSrc {P:Program}{w:World}{A:Option Addr}{m c:Nat}{news:List Value}{t e:TypeId}(ht:P.underlying t=some (.slice e))(h:SrcRow w A m c news):Go.Src P 1 t (.slice A m c) m news w:=by
 obtain ⟨hl,h1,hA⟩:=h
 rcases hA with ⟨rfl,rfl,rfl⟩|⟨ad,rfl,hc⟩
 · have hn:news=[]:=List.eq_nil_of_length_eq_zero hl
   subst hn
   exact Go.Src.ofNil w ht 0
 · exact Go.Src.ofSlice w ht ad m c news (by simpa using hl) hc h1
def OwnR (w:World)(base:Nat)(e:TypeId)(g n cap:Nat)(zs:List Int):Prop:=w.ownsRow base e 1 (.slice (some ⟨g,0,none⟩) n cap) n (u8s zs)
theorem OwnR.facts {w:World}{base:Nat}{e:TypeId}{g n cap:Nat}{zs:List Int}(h:OwnR w base e g n cap zs) :
  zs.length=n∧base≤g∧g<w.heap.size∧n≤cap∧cap≤maxLen∧(∀ i,i<zs.length→w.cell? ⟨g,i,none⟩=some (.int .u8 (zs.getD i 0)))∧(∀ i,w.frozen? ⟨g,i,none⟩=false):=by
 have hl:zs.length=n:=by have:=h.1;simpa [u8s] using this
 obtain ⟨g',cap',hv,h1,h2,h3,h4,h5,h6⟩:=ownB_of_row h (by intro h;cases h)
 cases hv
 exact ⟨hl,h1,h2,by omega,h4,h5,h6⟩
end Go.Proofs.YtpbaaedijfofnaaDoor
namespace Go.Proofs.YtpbaaedijfofnaaDoor
open Go.ChangeShapes Go.WideShapes Go.ChangeAt Go.RowKit
def byteAt (n:Int)(k:Nat):Int:=IntKind.u8.wrap (n / 2 ^ (8 * k))
theorem byteAt_bd (n:Int)(k:Nat):0≤byteAt n k∧byteAt n k≤255:=by
 unfold byteAt
 rw [IntKind.wrap_u8]
 omega
def laidOver (zs:List Int)(a:Nat)(n:Int):Nat→List Int
 | 0=>zs
 | k+1=>(laidOver zs a n k).set (a+k) (byteAt n k)
theorem laidOver_length (zs:List Int)(a:Nat)(n:Int):∀ k,(laidOver zs a n k).length=zs.length
 | 0=>rfl
 | k+1=>by simp [laidOver,laidOver_length zs a n k]
theorem laidOver_get (zs:List Int)(a:Nat)(n:Int):∀ (k j:Nat),a+k≤zs.length→(laidOver zs a n k).getD j 0=if a≤j∧j<a+k then byteAt n (j-a) else zs.getD j 0
 | 0,j,_=>by simp [laidOver];omega
 | k+1,j,h=>by
  have ih:=laidOver_get zs a n k j (by omega)
  have hl:=laidOver_length zs a n k
  simp only [laidOver]
  by_cases hj:j=a+k
  · subst hj
    rw [if_pos (by omega),show a+k-a=k from by omega]
    simp [List.getD,hl,show a+k<zs.length by omega]
  · have e:((laidOver zs a n k).set (a+k) (byteAt n k)).getD j 0=(laidOver zs a n k).getD j 0:=by
     simp only [List.getD]
     rw [List.getElem?_set_ne (by omega)]
    rw [e,ih]
    by_cases h1:a≤j∧j<a+k
    · rw [if_pos h1,if_pos (by omega)]
    · rw [if_neg h1,if_neg (by omega)]
theorem OwnR.set {w:World}{base:Nat}{e:TypeId}{g n cap:Nat}{zs:List Int}(h:OwnR w base e g n cap zs)(j:Nat)(b:Int):OwnR (w.setCell ⟨g,j,none⟩ (.int .u8 b)) base e g n cap (zs.set j b):=by
 obtain ⟨hl,h'⟩:=h
 rcases h' with ⟨hv,_⟩|⟨g',cap',cur,hv,hb,hg,hn,hm,hs,ht⟩
 · cases hv
 · cases hv
   refine ⟨by simpa [u8s] using hl,.inr ⟨g,cap,cur.setIfInBounds j (.int .u8 b),rfl,hb,?_,hn,hm,by simpa using hs,?_⟩⟩
   · simp [World.setCell,Array.getElem?_modify,hg]
   · have e1:u8s (zs.set j b)=(u8s zs).set j (.int .u8 b):=by simp [u8s,List.map_set]
     rw [e1,←ht]
     simp [List.take_set]
def zeros (n:Nat):List Int:=List.replicate n 0
theorem made_zeros (n:Nat):(madeCells (Value.int .u8 0).cells n).toList=u8s (zeros n):=by
 apply List.ext_getElem?
 intro i
 by_cases hi:i<n
 · simp [madeCells,zeros,u8s,Value.cells,hi,Nat.mod_one]
 · simp [madeCells,zeros,u8s,hi]
theorem own_weaken {w:World}{base base':Nat}{e:TypeId}{g n cap:Nat}{zs:List Int}(h:OwnR w base e g n cap zs)(hb:base'≤base):OwnR w base' e g n cap zs:=by
 obtain ⟨hl,h'⟩:=h
 refine ⟨hl,?_⟩
 rcases h' with h1|⟨g',cap',cur,h1,h2,h3⟩
 · exact .inl h1
 · exact .inr ⟨g',cap',cur,h1,Nat.le_trans hb h2,h3⟩
theorem rput_any (base:Nat)(x:Int)(n:Nat)(w:World)(hbase:base≤w.heap.size)(hn:n≤8) :
  Calls Tryd.prog 102 #[.int .u64 x,.int .i64 n] w fun e w'=>∃ g,e=.returned (.slice (some ⟨g,0,none⟩) n n)∧OwnR w' base 5 g n n (laidOver (zeros n) 0 x n)∧Below w.heap.size w w':=by
 obtain ⟨i0,hi0,hz0,hz1,hz2⟩:=info_parts u8_info
 have I1:=Lib.hid hi0
 have I2:=Lib.hid hz0
 have I3:=Lib.hid hz1
 have I4:=Lib.hid hz2
 clear hi0 hz0 hz1 hz2
 go_enter Tryd.func102,Tryd.ntmps102
 go_wp2_with (at_make;refine wpList_make_full _ rfl _ _ 22 rfl w.heap.size 5 i0 (.int .u8 0) 1 Tryd.underlying22 I1.out I2.out I3.out .i64 .i64 _ _ n rfl rfl rfl rfl (by rw [I4.out];omega) (by unfold maxLen;omega) (Nat.le_refl _) ?_;intro w2 hown2 hg2)
 have hown:OwnR w2 w.heap.size 5 w.heap.size n n (zeros n):=by
  unfold OwnR
  rw [←made_zeros,show n=n * 1 from (Nat.mul_one n).symm]
  simpa using hown2
 have HO:=Lib.hid hown
 have HG:=Lib.hid ((Below.refl w.heap.size w).grown hg2 (Nat.le_refl _) (by simp))
 clear hown hown2 hg2
 go_loopw [6] (fun i wr=>∃ k:Nat,k≤n∧i=.int .i64 k∧OwnR wr w.heap.size 5 w.heap.size n n (laidOver (zeros n) 0 x k)∧Below w.heap.size w wr) (fun i _=>(n-intOf i).toNat)
 case atStart=>exact ⟨0,Nat.zero_le _,rfl,HO.out,HG.out⟩
 case round =>
  obtain ⟨k,hk,rfl,hown,hgr⟩:=hrel
  have HR:=Lib.hid hown
  have HB:=Lib.hid hgr
  clear hown hgr
  by_cases hlt:k<n
  · obtain ⟨hl,_,_,hc,_,hcell,hfz⟩:=HR.out.facts
    have c1:=hcell k (by omega)
    have c2:=hfz k
    clear hcell hfz hl
    go_wp2
    go_roundw
    case rel =>
     refine ⟨k+1,by omega,by go_num,?_,?_⟩
     · have h:=HR.out.set k (byteAt x k)
       simp only [laidOver,Nat.zero_add]
       exact h
     · exact HB.out.setCell (Nat.le_refl _) _
    case measure=>simp [intOf];omega
  · go_wp2
    go_ret
    obtain rfl:n=k:=by omega
    exact ⟨w.heap.size,rfl,own_weaken HR.out hbase,HB.out⟩
theorem leNum_bytes (n:Nat):∀ k,leNum (byteAt (n:Int)) k=((n % 2 ^ (8 * k):Nat):Int)
 | 0=>by simp [leNum,Nat.mod_one]
 | k+1=>by
  have ih:=leNum_bytes n k
  simp only [leNum,ih]
  have e:byteAt (n:Int) k=((n / 2 ^ (8 * k) % 256:Nat):Int):=by
   unfold byteAt
   rw [IntKind.wrap_u8]
   have:((2:Int) ^ (8 * k))=((2 ^ (8 * k):Nat):Int):=by simp
   rw [this]
   generalize 2 ^ (8 * k)=P
   omega
  rw [e,show 8 * (k+1)=8 * k+8 from by omega,Nat.pow_add,Nat.mod_mul]
  have:((2:Int) ^ (8 * k))=((2 ^ (8 * k):Nat):Int):=by simp
  rw [this]
  generalize 2 ^ (8 * k)=P
  simp [Int.mul_comm]
theorem leAt_laid (bs:List Int)(a s n:Nat)(h:a+s≤bs.length):leAt (laidOver bs a n s) a s=((n % 2 ^ (8 * s):Nat):Int):=by
 rw [←leNum_bytes]
 unfold leAt
 apply leNum_congr
 intro j hj
 rw [laidOver_get bs a n s (a+j) h,if_pos (by omega),show a+j-a=j from by omega]
theorem leAt_laid2 (bs:List Int)(a:Nat)(n:Int)(h0:0≤n)(h:a+2≤bs.length):leAt (laidOver bs a n 2) a 2=n % 65536:=by
 obtain ⟨n,rfl⟩:=Int.eq_ofNat_of_zero_le h0
 exact leAt_laid bs a 2 n h
theorem leAt_laid4 (bs:List Int)(a:Nat)(n:Int)(h0:0≤n)(h:a+4≤bs.length):leAt (laidOver bs a n 4) a 4=n % 4294967296:=by
 obtain ⟨n,rfl⟩:=Int.eq_ofNat_of_zero_le h0
 exact leAt_laid bs a 4 n h
end Go.Proofs.YtpbaaedijfofnaaDoor
namespace Go.Proofs.YtpbaaedijfofnaaDoor
open Go.ChangeShapes Go.WideShapes Go.ChangeAt Go.RowKit
section
variable {P:Program} (w:World)
theorem run_append_any (base:Nat)(t tx ty e:TypeId)(i:TypeInfo)(z:Value)(size:Nat)(ht:P.underlying t=some (.slice e))(hi:P.info? e=some i)(hz:i.zero=some z)(hsize:i.size=size)(hzs:z.cells.size=size)
  (v:Value) (n:Nat) (xs:List Value) (hown:w.ownsRow base e size v n xs) (x:Value) (m:Nat) (news:List Value) (hs:Go.Src P size tx x m news w)
  (h63:n+m≤maxLen) (hbytes:(n+m) * i.bytes≤140737488355328) (hbase:base≤w.heap.size) :
  ∃ v' w',(Builtin.append_ #[t,tx] ty #[v,x]).run P w=.ok v' w'∧w'.ownsRow base e size v' (n+m) (xs++news)∧w.grownBy w' v.ownBlock∧(v'.ownBlock=v.ownBlock∨v'.ownBlock=some w.heap.size):=by
 have hsmall:((n+m:Nat):Int)≤9223372036854775807:=by simp only [maxLen] at h63;omega
 have hnl:news.length=m * size:=hs.newsLen
 have hxl:xs.length=n * size:=hown.1
 have hlen:(xs++news).length=(n+m) * size:=by rw [List.length_append,hxl,hnl,Nat.add_mul]
 have hs':Go.Src P i.size tx x m news w:=by rw [hsize];exact hs
 have grown:∀ (old:Nat) (row:Option Nat),
   (w.drew.alloc (.cells ((xs++news).toArray++Builtin.zeroCells z.cells (grownCap w (n+m) old e-(n+m))) e)).ownsRow base e size
    (.slice (some ⟨w.heap.size,0,none⟩) (n+m) (grownCap w (n+m) old e)) (n+m) (xs++news) ∧
   w.grownBy (w.drew.alloc (.cells ((xs++news).toArray++Builtin.zeroCells z.cells (grownCap w (n+m) old e-(n+m))) e)) row:=by
  intro old row
  have hge:=grownCap_ge w (n+m) old e
  have hcm:grownCap w (n+m) old e≤maxLen:=grownCap_le_maxLen w (n+m) old e h63
  refine ⟨⟨hlen,.inr ⟨w.heap.size,_,_,rfl,hbase,heap_alloc_new w.drew _,hge,hcm,?_,?_⟩⟩,⟨rfl,rfl,rfl,by simp,fun k hk _=>Below.heap_alloc w.drew _ k hk⟩⟩
  · rw [Array.size_append,List.size_toArray,size_zeroCells,hzs,hlen,←Nat.add_mul,Nat.add_sub_cancel' hge]
  · simp only [Array.toList_append]
    rw [←hlen]
    exact List.take_left
 rcases hown.2 with ⟨rfl,rfl⟩|⟨g,cap,cur,rfl,hbg,hg,hnc,hcm,hcs,htake⟩
 · have hx:xs=[]:=List.eq_nil_of_length_eq_zero (by rw [hxl,Nat.zero_mul])
   subst hx
   by_cases hm:m=0
   · subst hm
     have hn:news=[]:=List.eq_nil_of_length_eq_zero (by rw [hnl,Nat.zero_mul])
     subst hn
     refine ⟨.slice none 0 0,w,?_,World.ownsRow_nil w base e size,⟨rfl,rfl,rfl,Nat.le_refl _,fun _ _ _=>rfl⟩,.inl rfl⟩
     rcases hs.kind with ⟨e',hk⟩|hk<;>simp [Builtin.append_,run_underlying ht,run_underlying hk,sizeOf,typeInfo,hi,hs'.len,hs'.cells]
   · have hr:=run_append_grow_src (P:=P) w t tx ty e i z ht hi hz none 0 0 [] (run_firstCells_none w.drew i.size 0 0 0) x m news hs' (by omega) (by omega) (growslice_fits (by omega) (by simpa using hbytes))
     have hgr:=grown 0 (Value.ownBlock (.slice none 0 0))
     exact ⟨_,_,hr,hgr.1,hgr.2,.inr rfl⟩
 · by_cases hroom:n+m≤cap
   · have hfit:n * i.size+news.length≤cur.size:=by
      rw [hsize,hnl,hcs,←Nat.add_mul]
      exact Nat.mul_le_mul_right _ hroom
     have hst:=run_storeCells_at P g (n * i.size) e news 0 cur w hg (by simpa using hfit) hs.one
     simp only [Nat.add_zero] at hst
     have hr:(Builtin.append_ #[t,tx] ty #[.slice (some ⟨g,0,none⟩) n cap,x]).run P w=.ok (.slice (some ⟨g,0,none⟩) (n+m) cap) (w.setRow g (cur.toList.take (n * i.size)++news++cur.toList.drop (n * i.size+news.length)).toArray):=by
      rcases hs.kind with ⟨e',hk⟩|hk<;>simp [Builtin.append_,run_underlying ht,run_underlying hk,sizeOf,typeInfo,hi,hs'.len,hroom,hs'.cells,Addr.add_lit,hst]
     refine ⟨_,_,hr,⟨hlen,.inr ⟨g,cap,_,rfl,hbg,setRow_heap w g cur _ e _ hg,hroom,hcm,?_,?_⟩⟩,⟨rfl,rfl,rfl,by simp,fun k _ hk=>setRow_other w g k _ (fun e=>hk (by simp [Value.ownBlock,e]))⟩,.inl rfl⟩
     · simp only [List.size_toArray,List.length_append,List.length_take,List.length_drop,Array.length_toList]
       rw [←hcs]
       omega
     · rw [hsize,htake,←hlen]
       exact List.take_left
   · have holds:∀ j u,xs[j]?=some u→w.cell? ((⟨g,0,none⟩:Addr).add j)=some u:=hown.cells (g:=g) rfl
     have hf:=run_firstCells_some (P:=P) w.drew i.size n ⟨g,0,none⟩ n cap xs (by rw [hsize];exact hown.1) (by simpa using holds)
     have hr:=run_append_grow_src (P:=P) w t tx ty e i z ht hi hz (some ⟨g,0,none⟩) n cap xs hf x m news hs' (by omega) hsmall (growslice_fits (by omega) hbytes)
     have hgr:=grown cap (Value.ownBlock (.slice (some ⟨g,0,none⟩) n cap))
     exact ⟨_,_,hr,hgr.1,hgr.2,.inr rfl⟩
theorem wpList_append_any {ops:Array Oper}{rest:List Oper}{o:Oper}{a:Act}{Q:Exit→Act→World→Prop}(hgd:o.guard=none)(s x:Operand)(t tx:TypeId)
  (ho:o.op=.call { callee:=.builtin .append,args:=#[s,x],argTypes:=#[t,tx] })
  (base:Nat) (e:TypeId) (i:TypeInfo) (z:Value) (size:Nat) (ht:P.underlying t=some (.slice e)) (hi:P.info? e=some i) (hz:i.zero=some z) (hsize:i.size=size) (hzs:z.cells.size=size)
  (v:Value) (n:Nat) (xs:List Value) (hs:a.eval s=v) (hown:w.ownsRow base e size v n xs) (y:Value) (m:Nat) (news:List Value) (hx:a.eval x=y) (hr:Go.Src P size tx y m news w)
  (h63:n+m≤maxLen) (hbytes:(n+m) * i.bytes≤140737488355328) (hbase:base≤w.heap.size)
  (h:∀ v' w',w'.ownsRow base e size v' (n+m) (xs++news)→w.grownBy w' v.ownBlock→(v'.ownBlock=v.ownBlock∨v'.ownBlock=some w.heap.size)→wpList P ops Q rest (a.put o.dst v') w'):wpList P ops Q (o::rest) a w:=by
 refine wpList_plain hgd fun K hK=>?_
 obtain ⟨v',w',hrun,h2,h3,h4⟩:=run_append_any (P:=P) w base t tx o.type e i z size ht hi hz hsize hzs v n xs hown y m news hr h63 hbytes hbase
 unfold Oper.wp execOp
 simp only [ho,resolve,invoke,builtin,Sem.run_bind,Sem.run_pure,Result.andThen_ok,List.map_toArray,List.map_cons,List.map_nil,hs,hx,hrun]
 exact hK _ _ (h v' w' h2 h3 h4)
theorem wpList_append_first {ops:Array Oper}{rest:List Oper}{o:Oper}{a:Act}{Q:Exit→Act→World→Prop}(hgd:o.guard=none)(s x:Operand)(t tx:TypeId)
  (ho:o.op=.call { callee:=.builtin .append,args:=#[s,x],argTypes:=#[t,tx] })
  (base:Nat) (e:TypeId) (i:TypeInfo) (z:Value) (size:Nat) (ht:P.underlying t=some (.slice e)) (hi:P.info? e=some i) (hz:i.zero=some z) (hsize:i.size=size) (hzs:z.cells.size=size)
  (v:Value) (hs:a.eval s=v) (hown:w.ownsRow base e size v 0 []) (y:Value) (m:Nat) (news:List Value) (hx:a.eval x=y) (hr:Go.Src P size tx y m news w)
  (h63:m≤maxLen) (hbytes:m * i.bytes≤140737488355328) (hbase:base≤w.heap.size)
  (h:∀ v' w',w'.ownsRow base e size v' m news→w.grownBy w' v.ownBlock→(v'.ownBlock=v.ownBlock∨v'.ownBlock=some w.heap.size)→wpList P ops Q rest (a.put o.dst v') w'):wpList P ops Q (o::rest) a w:=
 wpList_append_any w hgd s x t tx ho base e i z size ht hi hz hsize hzs v 0 [] hs hown y m news hx hr (by rw [Nat.zero_add];exact h63) (by rw [Nat.zero_add];exact hbytes) hbase (fun v' w' h2 h3 h4=>h v' w' (by rw [Nat.zero_add,List.nil_append] at h2;exact h2) h3 h4)
end
end Go.Proofs.YtpbaaedijfofnaaDoor
namespace Go.Proofs.YtpbaaedijfofnaaDoor
open Go.ChangeShapes Go.WideShapes Go.ChangeAt Go.RowKit Go.Shelf
section
variable {P:Program} {ops:Array Oper} {Q:Exit→Act→World→Prop} {md:Region.Mode} {s:Nat} {U V:World→Prop}
def Till (s:Nat)(U V:World→Prop)(listed:Array Bool)(w:World):Prop:=U w∧(listed.getD s true=false→V w)
def wpTill (P:Program)(md:Region.Mode)(ops:Array Oper)(Q:Exit→Act→World→Prop)(s:Nat)(U V:World→Prop)(fuel:Nat):Array Bool→Act→World→Prop:=
 Nat.rec (fun l a w=>Region.ready md ops l=[]∧Q .normal a w) (fun _ next l a w=>(Region.ready md ops l=[]→Q .normal a w)∧∀ i,i ∈ Region.ready md ops l→wpOp P ops Q i (fun b v=>Till s U V (l.setIfInBounds i true) v∧next (l.setIfInBounds i true) b v) a w) fuel
theorem till_any (n:Nat):∀ (l:Array Bool) (a:Act) (w:World),wpTill P md ops Q s U V n l a w→wpAny P md ops Q n l a w:=by
 induction n with
 | zero=>exact fun _ _ _ h=>h
 | succ n ih=>exact fun l a w h=>⟨h.1,fun i hi=>wpOp_mono (fun b v k=>ih _ b v k.2) (h.2 i hi)⟩
def waitsFor (md:Region.Mode)(ops:Array Oper)(s i:Nat):Bool:=
 match ops[s]? with
 | some o=>o.after.any (fun e=>Region.binds md e&&e.on==i) && !(i==s)
 | none=>false
theorem waits_spec {i:Nat}(h:waitsFor md ops s i=true):i≠s∧∃ o,ops[s]?=some o∧∃ e ∈ o.after,Region.binds md e=true∧e.on=i:=by
 unfold waitsFor at h
 split at h
 · rename_i o ho
   simp only [Bool.and_eq_true,Array.any_eq_true',Bool.not_eq_true',beq_eq_false_iff_ne,beq_iff_eq] at h
   obtain ⟨⟨e,he,hb,hi⟩,hne⟩:=h
   exact ⟨hne,o,ho,e,he,hb,hi⟩
 · cases h
theorem till_first {i:Nat}{oi:Oper}{v:Value}(hi:ops[i]?=some oi)(hw:waitsFor md ops s i=true)(hsel:∀ (j:Nat) (o:Oper) c b,ops[j]?=some o→o.op≠.select c b)(hQ:∀ p b u,Q (.panic p) (b.put oi.dst v) u→Q (.panic p) b u)(n:Nat) :
  ∀ (l:Array Bool) (a:Act) (w:World),(∀ j oj,ops[j]?=some oj→j≠i→l.getD j true=false→(∀ e ∈ oj.after,Region.binds md e=true→e.on≠i)→oi.apart ops oj=true)→i ∈ Region.ready md ops l→l.getD s true=false →
   YieldsIf P ops (fun u=>U u∧V u) oi v a→U w→V w→wpTill P md ops Q s U V n (l.setIfInBounds i true) (a.put oi.dst v) w→wpTill P md ops Q s U V (n+1) l a w:=by
 obtain ⟨his,os,hos,e0,he0,hb0,hi0⟩:=waits_spec hw
 have main:∀ (l:Array Bool) (a:Act) (w:World),i ∈ Region.ready md ops l→YieldsIf P ops (fun u=>U u∧V u) oi v a→U w→V w→(n':Nat)→wpTill P md ops Q s U V n' (l.setIfInBounds i true) (a.put oi.dst v) w →
   wpOp P ops Q i (fun b u=>Till s U V (l.setIfInBounds i true) u∧wpTill P md ops Q s U V n' (l.setIfInBounds i true) b u) a w:=fun l a w _ hy hU hV _ H=>hy.wpOp hi ⟨hU,hV⟩ ⟨⟨hU,fun _=>hV⟩,H⟩
 induction n with
 | zero =>
  intro l a w _ hr _ hy hU hV H
  refine ⟨fun h0=>(by rw [h0] at hr;cases hr),fun j hj=>?_⟩
  rcases Nat.decEq j i with hne|rfl
  · have h1:=ready_mono hj hne
    rw [H.1] at h1
    cases h1
  · exact main l a w hr hy hU hV 0 H
 | succ n ih =>
  intro l a w hfree hr hl hy hU hV H
  refine ⟨fun h0=>(by rw [h0] at hr;cases hr),fun j hj=>?_⟩
  rcases Nat.decEq j i with hne|rfl
  · obtain ⟨hun,oj,hoj,hdone⟩:=mem_ready.1 hj
    have hoff:=(mem_ready.1 hr).1
    have hno:∀ e ∈ oj.after,Region.binds md e=true→e.on≠i:=by
     rintro e he hb rfl
     have h1:=hdone e he hb
     rcases Nat.lt_or_ge e.on l.size with hlt|hge
     · simp [hlt] at h1 hoff
       rw [hoff] at h1
       cases h1
     · simp [Array.getElem?_eq_none hge] at h1
    have hjs:j≠s:=by
     rintro rfl
     rw [hos] at hoj
     injection hoj with hoj
     subst hoj
     exact hno e0 he0 hb0 hi0
    have hkept:((l.setIfInBounds i true).setIfInBounds j true).getD s true=false:=by rw [getD_set_ne true hjs,getD_set_ne true his];exact hl
    refine wpOp_mono (fun b u k=>?_) (wpOp_putIf (S:=fun u=>U u∧V u) hoj (hfree j oj hoj hne hun hno) (fun c b=>hsel i oi c b hi) (fun c b=>hsel j oj c b hoj) hQ hy (H.2 j (ready_mono hj hne)))
    obtain ⟨hy',⟨hU',hV'⟩,hrest⟩:=k
    refine ⟨⟨hU',fun _=>hV' hkept⟩,ih (l.setIfInBounds j true) b u (fun m om hm hmi hmun hmno=>hfree m om hm hmi ?_ hmno) (ready_mono hr (Ne.symm hne)) (by rw [getD_set_ne true hjs];exact hl) hy' hU' (hV' hkept) ?_⟩
    · rcases Nat.decEq j m with hjm|rfl
      · rwa [getD_set_ne true hjm] at hmun
      · exact hun
    · rw [Array.setIfInBounds_comm _ _ hne]
      exact hrest
  · exact main l a w hr hy hU hV (n+1) H
theorem till_take {i:Nat}{oi:Oper}{v:Value}{n:Nat}{l:Array Bool}{a:Act}{w:World}(hi:ops[i]?=some oi)(hs:Region.noSelect ops=true)(hf:Region.free md ops l i=true)(hr:(Region.ready md ops l).contains i=true)(hw:waitsFor md ops s i=true)(hl:l.getD s true=false)
  (hQ:∀ p b u,Q (.panic p) (b.put oi.dst v) u→Q (.panic p) b u) (hy:YieldsIf P ops (fun u=>U u∧V u) oi v a) (hU:U w) (hV:V w) (h:wpTill P md ops Q s U V n (l.setIfInBounds i true) (a.put oi.dst v) w):wpTill P md ops Q s U V (n+1) l a w:=
 till_first hi hw (Region.noSelect_spec hs) hQ n l a w (Region.free_spec hi hf) (by simpa using hr) hl hy hU hV h
theorem till_one {i:Nat}{o:Oper}{n:Nat}{l:Array Bool}{a:Act}{w:World}(hr:Region.ready md ops l=[i])(ho:ops[i]?=some o)
  (h:∀ K:Act→World→Prop,Hid (∀ b u,U u→V u→wpTill P md ops Q s U V n (l.setIfInBounds i true) b u→K b u)→if Region.wanted o (yielded ops a.tmps)=true then Oper.wp P o a w K Q else K (a.put o.dst undef) w):wpTill P md ops Q s U V (n+1) l a w:=by
 refine ⟨fun h0=>(by rw [hr] at h0;cases h0),fun j hj=>?_⟩
 rw [hr] at hj
 obtain rfl:=List.mem_singleton.1 hj
 have k:=h (fun b u=>Till s U V (l.setIfInBounds j true) u∧wpTill P md ops Q s U V n (l.setIfInBounds j true) b u) (Lib.hid fun b u hU hV hh=>⟨⟨hU,fun _=>hV⟩,hh⟩)
 unfold wpOp
 simp only [ho]
 by_cases hw:Region.wanted o (yielded ops a.tmps)=true
 · rw [if_pos hw] at k ⊢
   exact .inl k
 · rw [if_neg hw] at k ⊢
   exact k
theorem till_last {o:Oper}{n:Nat}{l:Array Bool}{a:Act}{w:World}(hr:Region.ready md ops l=[s])(ho:ops[s]?=some o)
  (h:∀ K:Act→World→Prop,Hid (∀ b u,U u→wpTill P md ops Q s U V n (l.setIfInBounds s true) b u→K b u)→if Region.wanted o (yielded ops a.tmps)=true then Oper.wp P o a w K Q else K (a.put o.dst undef) w):wpTill P md ops Q s U V (n+1) l a w:=by
 have hset:(l.setIfInBounds s true).getD s true=true:=by
  rcases Nat.lt_or_ge s l.size with hlt|hge
  · simp [hlt]
  · simp [Array.getElem?_eq_none (show (l.setIfInBounds s true).size≤s by simpa using hge)]
 refine ⟨fun h0=>(by rw [hr] at h0;cases h0),fun j hj=>?_⟩
 rw [hr] at hj
 obtain rfl:=List.mem_singleton.1 hj
 have k:=h (fun b u=>Till j U V (l.setIfInBounds j true) u∧wpTill P md ops Q j U V n (l.setIfInBounds j true) b u) (Lib.hid fun b u hU hh=>⟨⟨hU,fun h1=>by rw [hset] at h1;cases h1⟩,hh⟩)
 unfold wpOp
 simp only [ho]
 by_cases hw:Region.wanted o (yielded ops a.tmps)=true
 · rw [if_pos hw] at k ⊢
   exact .inl k
 · rw [if_neg hw] at k ⊢
   exact k
theorem till_done {l:Array Bool}{a:Act}{w:World}(hr:Region.ready md ops l=[])(h:Q .normal a w)(n:Nat):wpTill P md ops Q s U V n l a w:=by
 cases n with
 | zero=>exact ⟨hr,h⟩
 | succ n=>exact ⟨fun _=>h,fun i hi=>by rw [hr] at hi;cases hi⟩
theorem till_start {id:Nat}{a:Act}{w:World}(s:Nat)(U V:World→Prop)(hm:P.follows .mixedOrders=true)(h:wpTill P .any ops Q s U V ops.size (Array.replicate ops.size false) a w.drew):(Code.region id ops true).wp P Q a w:=
 wp_region_any hm (till_any _ _ _ _ h)
end
end Go.Proofs.YtpbaaedijfofnaaDoor
namespace Go.Proofs.YtpbaaedijfofnaaDoor
open Go.ChangeShapes Go.WideShapes Go.ChangeAt Go.RowKit Go.Shelf
set_option maxRecDepth 100000 in
set_option maxHeartbeats 4000000 in
theorem nothing_any (w:World)(name:ByteArray)(k:Nat)(ref lists:Int)(d:Nat) :
  Calls Tryd.prog 64 #[.agg #[.string name,.int .u8 k,.int .i64 ref,.int .i64 lists,.int .u64 d]] w fun e w'=>e=.returned (.agg #[.int .u64 d,.slice none 0 0,.slice none 0 0,.bool false])∧Below w.heap.size w w':=by
 obtain ⟨hb,hq1,hq2⟩:=two_start w #[.string name,.int .u8 k,.int .i64 ref,.int .i64 lists,.int .u64 d] #[.int .u64 0,.slice none 0 0,.slice none 0 0,.bool false] 64 36
 have HB:=Lib.hid hb
 have HQ2:=Lib.hid hq2
 obtain ⟨_,y0,y1,y2,y3,y4,_⟩:=blk5 hq1
 obtain ⟨_,z0,z1,z2,z3⟩:=blk4p hq2
 have z4:=blk_frozen hq2 0
 have z5:=blk_frozen hq2 1
 have z6:=blk_frozen hq2 2
 have z7:=blk_frozen hq2 3
 clear hb hq1 hq2
 go_enter Tryd.func64,Tryd.ntmps64
 go_upto_region 1 with (fail)
 generalize (w.alloc (.cells #[.string name,.int .u8 k,.int .i64 ref,.int .i64 lists,.int .u64 d] 64)).alloc (.cells #[.int .u64 0,.slice none 0 0,.slice none 0 0,.bool false] 36)=W0 at *
 go_wp2
 refine post_gen (fun Wf=>Wf.heap[w.heap.size+1]?=some (.cells #[.int .u64 d,.slice none 0 0,.slice none 0 0,.bool false] 36 (0,0))∧Below w.heap.size w Wf) ⟨?_,?_⟩ ?_
 · exact blk_set4 HQ2.out _ _ _ _
 · exact below_set4 HB.out (Nat.le_succ _) _ _ _ _
 · rintro Wf ⟨e1,e2⟩
   obtain ⟨_,d0,d1,d2,d3⟩:=blk4p e1
   exact bodyPost_ret (v:=.agg #[.int .u64 d,.slice none 0 0,.slice none 0 0,.bool false]) (by simp [results,Tryd.results64,go_sem,d0,d1,d2,d3]) rfl ⟨rfl,e2⟩
end Go.Proofs.YtpbaaedijfofnaaDoor
namespace Go.Proofs.YtpbaaedijfofnaaDoor
open Go.ChangeShapes Go.WideShapes Go.ChangeAt Go.RowKit
theorem OwnR.of_block {w w':World}{base:Nat}{e:TypeId}{g n cap:Nat}{zs:List Int}(h:OwnR w base e g n cap zs)(hb:w'.heap[g]?=w.heap[g]?):OwnR w' base e g n cap zs:=by
 obtain ⟨hl,h'⟩:=h
 refine ⟨hl,?_⟩
 rcases h' with h1|⟨g',cap',cur,hv,h1,hg,h2⟩
 · exact .inl h1
 · cases hv
   exact .inr ⟨g,cap,cur,rfl,h1,hb.trans hg,h2⟩
theorem OwnR.below {w w':World}{base B:Nat}{e:TypeId}{g n cap:Nat}{zs:List Int}(h:OwnR w base e g n cap zs)(hb:Below B w w')(hg:g<B):OwnR w' base e g n cap zs:=h.of_block (hb.block g hg)
theorem OwnR.grown {w w':World}{base:Nat}{row:Option Nat}{e:TypeId}{g n cap:Nat}{zs:List Int}(h:OwnR w base e g n cap zs)(hb:w.grownBy w' row)(hg:some g≠row):OwnR w' base e g n cap zs:=h.of_block (hb.block g h.facts.2.2.1 hg)
theorem OwnR.part {P:Program}{w w':World}{base:Nat}{e:TypeId}{g n cap:Nat}{zs:List Int}(h:OwnR w base e g n cap zs)(hw:∀ i,w'.cell? ⟨g,i,none⟩=w.cell? ⟨g,i,none⟩)(t d:TypeId)(ht:P.underlying t=some (.slice e))(he:P.underlying e=some (.int .u8))(hd:P.underlying d=some .string)
  (k m c:Nat) (hfit:k+m≤n):(convert t d (.slice (some ⟨g,k,none⟩) m c)).run P w'=.ok (.string (strOfNums ((zs.drop k).take m))) w':=by
 obtain ⟨hl,_,_,_,_,hc,_⟩:=h.facts
 refine run_convert_bytes_arg (P:=P) w' t e ht he g k m c _ (by simp;omega) (fun i hi=>?_) d hd
 rw [hw,hc (k+i) (by omega)]
 simp [List.getD,hi]
theorem IsRow.part {P:Program}{w w':World}{b off len cap:Nat}{zs:List Int}{e:TypeId}(h:IsRow .u8 w (some ⟨b,off,none⟩) len cap zs)(hb:Below w.heap.size w w')(t d:TypeId)(ht:P.underlying t=some (.slice e))(he:P.underlying e=some (.int .u8))(hd:P.underlying d=some .string)
  (k m c:Nat) (hfit:k+m≤len):(convert t d (.slice (some ⟨b,off+k,none⟩) m c)).run P w'=.ok (.string (strOfNums (((zs.take len).drop k).take m))) w':=by
 obtain ⟨hl,_,hz,_,hp⟩:=h
 refine run_convert_bytes_arg (P:=P) w' t e ht he b (off+k) m c _ (by simp;omega) (fun i hi=>?_) d hd
 obtain ⟨b',off',he',hlt,hc⟩:=hp (by rintro rfl;simp at hz;omega)
 cases he'
 rw [Nat.add_assoc,(hb.cell (p:=⟨b,off+(k+i),none⟩) hlt).trans (hc (k+i) (by omega))]
 have h1:k+i<len:=by omega
 simp [List.getD,hi,h1]
theorem u8s_one (zs:List Int):∀ v ∈ u8s zs,v.oneCell'=true:=by
 intro v hv
 obtain ⟨z,_,rfl⟩:=List.mem_map.1 hv
 rfl
end Go.Proofs.YtpbaaedijfofnaaDoor
namespace Go.Proofs.YtpbaaedijfofnaaDoor
open Go.ChangeShapes Go.WideShapes Go.ChangeAt Go.RowKit
noncomputable def laidWorld (os:Os):World:=
 { World.holding Tryd.prog os ⟨#[],#[],[]⟩ with heap:=(((World.holding Tryd.prog os ⟨#[],#[],[]⟩).heap.modify 2 (fun
   | .cells _ t frozen=>.cells (Lib.firstTab.map (Value.int .u8)).toArray t frozen
   | o=>o)).modify 3 (fun
   | .cells _ t frozen=>.cells ((List.range 32).map fun i=>Value.int .u8 (if i % 2=0 then Lib.accLo (i / 2) else Lib.accHi (i / 2))).toArray t frozen
   | o=>o)) }
end Go.Proofs.YtpbaaedijfofnaaDoor
