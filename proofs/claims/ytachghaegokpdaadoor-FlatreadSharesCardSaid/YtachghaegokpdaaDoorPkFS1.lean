/-
  The statement of the law FlatreadShares, from its walk: for every input that can be read the law returns true, and its arguments read as they did. Conditions: those of the given row (the listed tables hold what the program's text lays; the card ties them).
-/
import Derived.Test.YtachghaegokpdaaDoorPkFA1
import Derived.Test.YtachghaegokpdaaDoorPkFC1
import Derived.Test.YtachghaegokpdaaDoorPkFB1
import Derived.Test.YtachghaegokpdaaDoorPkFC2
import Derived.Test.YtachghaegokpdaaDoorPkFC3
import Derived.Test.YtachghaegokpdaaDoorPkFC4
import Derived.Test.YtachghaegokpdaaDoorPkFC5
import Derived.Test.YtachghaegokpdaaDoorPkFC6
import Derived.Test.YtachghaegokpdaaDoorPkFC7
import Derived.Test.YtachghaegokpdaaDoorPkFC8
import Derived.Test.YtachghaegokpdaaDoorPkFC9
import Derived.Test.YtachghaegokpdaaDoorPkFC10
import Derived.Test.YtachghaegokpdaaDoorPkFC11
import Derived.Test.YtachghaegokpdaaDoorPkFC12
import Derived.Test.YtachghaegokpdaaDoorPkFC13
import Derived.Test.YtachghaegokpdaaDoorPkFC14
import Derived.Test.YtachghaegokpdaaDoorPkFC15
import Derived.Test.YtachghaegokpdaaDoorPkFC16
import Derived.Test.YtachghaegokpdaaDoorPkFC17
import Derived.Test.YtachghaegokpdaaDoorPkFC18
import Derived.Test.YtachghaegokpdaaDoorPkFC19
import Derived.Test.YtachghaegokpdaaDoorPkFC20
import Derived.Test.YtachghaegokpdaaDoorPkFC21
import Derived.Test.YtachghaegokpdaaDoorPkFC22
import Derived.Test.YtachghaegokpdaaDoorPkFC23
import Derived.Test.YtachghaegokpdaaDoorPkFC24
import Derived.Test.YtachghaegokpdaaDoorPkFC25
import Derived.Test.YtachghaegokpdaaDoorPkFC26
import Derived.Test.YtachghaegokpdaaDoorPkFC27
import Derived.Test.YtachghaegokpdaaDoorPkFC28
import Derived.Test.YtachghaegokpdaaDoorPkFC29
import Derived.Test.YtachghaegokpdaaDoorPkFC30
import Derived.Test.YtachghaegokpdaaDoorPkFC31
import Derived.Test.YtachghaegokpdaaDoorPkFC32
import Derived.Test.YtachghaegokpdaaDoorPkFC33
import Derived.Test.YtachghaegokpdaaDoorPkFC34
import Derived.Test.YtachghaegokpdaaDoorPkFC35
import Derived.Test.YtachghaegokpdaaDoorPkFC36
import Derived.Test.YtachghaegokpdaaDoorPkFC37
import Derived.Test.YtachghaegokpdaaDoorPkFC38
import Derived.Test.YtachghaegokpdaaDoorPkFC39
import Derived.Test.YtachghaegokpdaaDoorPkFC40
import Derived.Test.YtachghaegokpdaaDoorPkFC41
import Derived.Test.YtachghaegokpdaaDoorCards
import Derived.Test.YtachghaegokpdaaDoorTie
namespace Go.Proofs.YtachghaegokpdaaDoor
open Go.RowKit
def shN (i:Nat):ByteArray:=⟨#[120]⟩++strOfNums [97+(i:Int)]
def shF (k:Nat):List SFld:=(List.range k).map fun i=>⟨shN i,12,0,0,0⟩
def shS (k:Nat):SRec:=⟨⟨#[83]⟩,shF k⟩
def shA (k:Nat):List Int:=[8+2 * (k:Int),0,0,0,4+2 * (k:Int),0,4+4 * (k:Int),0]
def shB (j:Nat):List Int:=(List.range j).flatMap fun (i:Nat)=>([4+4 * (i:Int),0]:List Int)
def shC (k:Nat):List Int:=[4+2 * (k:Int),0,0,0]
def shD (k j:Nat):List Int:=(List.range j).flatMap fun (i:Nat)=>([4 * ((k:Int)-(i:Int)),0,0,0]:List Int)
def shE (n:Nat):List Int:=[(n:Int),0,0,0]
def shZ (k n:Nat):List Int:=shA k++shB k++shC k++shD k k++shE n++zeros n
def shOk (k n:Nat):Bool:=(flatZ [cR (shS k)] [] (shZ k n) 12 13 0 0 0 ((shZ k n).length:Nat)).isSome==decide (4+2 * k+(4+4 * k)+k * (4+n)≤(shZ k n).length)
theorem sh_1:((List.range 256).all fun n=>shOk 1 n)=true:=by kernel_rfl
theorem sh_2:((List.range 256).all fun n=>shOk 2 n)=true:=by kernel_rfl
theorem sh_3:((List.range 256).all fun n=>shOk 3 n)=true:=by kernel_rfl
theorem sh_4:((List.range 256).all fun n=>shOk 4 n)=true:=by kernel_rfl
theorem sh_5:((List.range 256).all fun n=>shOk 5 n)=true:=by kernel_rfl
theorem sh_6:((List.range 256).all fun n=>shOk 6 n)=true:=by kernel_rfl
theorem sh_7:((List.range 256).all fun n=>shOk 7 n)=true:=by kernel_rfl
theorem sh_8:((List.range 256).all fun n=>shOk 8 n)=true:=by kernel_rfl
theorem sh_9:((List.range 256).all fun n=>shOk 9 n)=true:=by kernel_rfl
theorem sh_10:((List.range 256).all fun n=>shOk 10 n)=true:=by kernel_rfl
theorem sh_11:((List.range 256).all fun n=>shOk 11 n)=true:=by kernel_rfl
theorem sh_12:((List.range 256).all fun n=>shOk 12 n)=true:=by kernel_rfl
theorem sh_13:((List.range 256).all fun n=>shOk 13 n)=true:=by kernel_rfl
theorem sh_14:((List.range 256).all fun n=>shOk 14 n)=true:=by kernel_rfl
theorem sh_15:((List.range 256).all fun n=>shOk 15 n)=true:=by kernel_rfl
theorem sh_16:((List.range 256).all fun n=>shOk 16 n)=true:=by kernel_rfl
theorem sh_ok {k n:Nat}(h1:1≤k)(h2:k≤16)(hn:n<256):shOk k n=true:=by
 have h3:k=1∨k=2∨k=3∨k=4∨k=5∨k=6∨k=7∨k=8∨k=9∨k=10∨k=11∨k=12∨k=13∨k=14∨k=15∨k=16:=by omega
 have hm:=List.mem_range.2 hn
 rcases h3 with rfl|rfl|rfl|rfl|rfl|rfl|rfl|rfl|rfl|rfl|rfl|rfl|rfl|rfl|rfl|rfl
 · exact List.all_eq_true.1 sh_1 n hm
 · exact List.all_eq_true.1 sh_2 n hm
 · exact List.all_eq_true.1 sh_3 n hm
 · exact List.all_eq_true.1 sh_4 n hm
 · exact List.all_eq_true.1 sh_5 n hm
 · exact List.all_eq_true.1 sh_6 n hm
 · exact List.all_eq_true.1 sh_7 n hm
 · exact List.all_eq_true.1 sh_8 n hm
 · exact List.all_eq_true.1 sh_9 n hm
 · exact List.all_eq_true.1 sh_10 n hm
 · exact List.all_eq_true.1 sh_11 n hm
 · exact List.all_eq_true.1 sh_12 n hm
 · exact List.all_eq_true.1 sh_13 n hm
 · exact List.all_eq_true.1 sh_14 n hm
 · exact List.all_eq_true.1 sh_15 n hm
 · exact List.all_eq_true.1 sh_16 n hm
end Go.Proofs.YtachghaegokpdaaDoor
namespace Go.Proofs.YtachghaegokpdaaDoor
open Go.RowKit
theorem shF_length (k:Nat):(shF k).length=k:=by simp [shF]
theorem shF_succ (k:Nat):shF (k+1)=shF k++[⟨shN k,12,0,0,0⟩]:=by simp [shF,List.range_succ]
theorem shB_succ (j:Nat):shB (j+1)=shB j++[4+4 * (j:Int),0]:=by simp [shB,List.range_succ,List.flatMap_append]
theorem shD_succ (k j:Nat):shD k (j+1)=shD k j++[4 * ((k:Int)-(j:Int)),0,0,0]:=by simp [shD,List.range_succ,List.flatMap_append]
theorem shB_length:∀ j,(shB j).length=2 * j
 | 0=>rfl
 | j+1=>by rw [shB_succ,List.length_append,shB_length j];simp;omega
theorem shD_length (k:Nat):∀ j,(shD k j).length=4 * j
 | 0=>rfl
 | j+1=>by rw [shD_succ,List.length_append,shD_length k j];simp;omega
theorem shZ_length (k n:Nat):(shZ k n).length=16+6 * k+n:=by
 unfold shZ
 rw [List.length_append,List.length_append,List.length_append,List.length_append,List.length_append,shB_length,shD_length,length_zeros]
 show 8+2 * k+4+4 * k+4+n=_
 omega
theorem shB_mem {j:Nat}{z:Int}(h:z ∈ shB j):∃ i:Nat,i<j∧(z=4+4 * (i:Int)∨z=0):=by
 obtain ⟨i,hi,hz⟩:=List.mem_flatMap.1 h
 exact ⟨i,List.mem_range.1 hi,by simpa using hz⟩
theorem shD_mem {k j:Nat}{z:Int}(h:z ∈ shD k j):∃ i:Nat,i<j∧(z=4 * ((k:Int)-(i:Int))∨z=0):=by
 obtain ⟨i,hi,hz⟩:=List.mem_flatMap.1 h
 exact ⟨i,List.mem_range.1 hi,by simpa using hz⟩
theorem shZ_rng {k n:Nat}(hk:k≤16)(hn:n<256):∀ z ∈ shZ k n,0≤z∧z≤255:=fun z hz=>by
 unfold shZ at hz
 simp only [List.mem_append] at hz
 rcases hz with ((((h|h)|h)|h)|h)|h
 · simp only [shA,List.mem_cons,List.not_mem_nil,or_false] at h
   omega
 · obtain ⟨i,hi,h1|h1⟩:=shB_mem h<;>omega
 · simp only [shC,List.mem_cons,List.not_mem_nil,or_false] at h
   omega
 · obtain ⟨i,hi,h1|h1⟩:=shD_mem h<;>omega
 · simp only [shE,List.mem_cons,List.not_mem_nil,or_false] at h
   omega
 · rw [zeros,List.mem_replicate] at h
   omega
theorem sh_M {k:Nat}(hk:k≤16)(fv:Value):SchM [(shS k,fv)] ([].map (Prod.fst:SCho × Value→SCho)):=⟨(by decide:1≤16),fun q hq=>by
 rw [List.mem_singleton] at hq
 subst hq
 refine ⟨(by show (shF k).length≤16;rw [shF_length];exact hk),fun f hf=>?_⟩
 obtain ⟨i,_,rfl⟩:=List.mem_map.1 (show f ∈ (List.range k).map _ from hf)
 exact ⟨⟨(by decide:1≤12),(by decide:12≤13),(by decide:0≤3),fun h=>absurd (show 12=10 from h) (by decide),fun h=>absurd (show 12=13 from h) (by decide)⟩,(by decide:((0:Nat):Int)≤18446744073709551615),fun _ h=>absurd (show 12≤10 from h) (by decide)⟩⟩
theorem sh_D (k:Nat)(fv:Value):∀ q ∈ [(shS k,fv)],DfltsOk ([].map (Prod.fst:SCho × Value→SCho)) (cR q.1).fields:=fun q hq=>by
 rw [List.mem_singleton] at hq
 subst hq
 intro f hf
 obtain ⟨x,hx,rfl⟩:=List.mem_map.1 (show f ∈ (shF k).map cF from hf)
 obtain ⟨i,_,rfl⟩:=List.mem_map.1 (show x ∈ (List.range k).map _ from hx)
 exact ⟨⟨(by decide:1≤12),(by decide:12≤13),(by decide:(0:Int)≤0)⟩,fun h=>absurd (show sortP 12 0=1 from h) (by decide),fun _=>rfl⟩
theorem sh_F (k:Nat)(fv:Value):FldsOk (crow [(shS k,fv)]):=fun q hq f hf=>by
 obtain ⟨x,hx,rfl⟩:=List.mem_map.1 hq
 rw [List.mem_singleton] at hx
 subst hx
 obtain ⟨y,hy,rfl⟩:=List.mem_map.1 (show f ∈ (shF k).map cF from hf)
 obtain ⟨i,_,rfl⟩:=List.mem_map.1 (show y ∈ (List.range k).map _ from hy)
 exact ⟨(by decide:12≤255),(by decide:(-9223372036854775800:Int)≤0),(by decide:(0:Int)≤9223372036854775807),(by decide:0≤18446744073709551615)⟩
end Go.Proofs.YtachghaegokpdaaDoor
namespace Go.Proofs.YtachghaegokpdaaDoor
open Go.ChangeShapes Go.WideShapes Go.ChangeAt Go.RowKit Go.Shelf
theorem u8_infoS:(Tryd.prog.info? 5).map (fun i=>(i.zero,i.size,i.bytes))=some (some (.int .u8 0),1,1):=by kernel_rfl
def ShAt (w:World)(k:Nat)(x:Value)(wr:World):Prop:=∃ (j:Nat) (A:Option Addr) (cap:Nat),j≤k∧x=.int .i64 j∧wr.heap[w.heap.size]?=some (.cells #[.string ⟨#[83]⟩,.slice A j cap] 36 (0,0))∧wr.ownsRow (w.heap.size+1) 60 5 (.slice A j cap) j (sfldsCells (shF j))∧Below w.heap.size w wr
def ShBt (w:World)(f:Nat→List Int)(L:Nat→Nat)(k:Nat)(b x:Value)(wr:World):Prop:=∃ (j:Nat) (A:Option Addr) (cap:Nat),j≤k∧x=.int .i64 j∧b=.slice A (L j) cap∧wr.ownsRow w.heap.size 5 1 (.slice A (L j) cap) (L j) (u8s (f j))∧Below w.heap.size w wr
theorem u8_step {w wr W7 W8:World}{v:Value}{n:Nat}{xs:List Value}(hb:Below w.heap.size w wr)(hr:wr.ownsRow w.heap.size 5 1 v n xs)(h7:Below wr.heap.size wr W7)(hg:W7.grownBy W8 v.ownBlock):Below w.heap.size w W8:=
 (hb.trans (h7.mono hb.size)).grown hg (Nat.le_trans hb.size h7.size) (fun k hk=>(ownsRow_lt hr k hk).1)
theorem ownv_of {w:World}{base n cap:Nat}{A:Option Addr}{zs:List Int}(h:w.ownsRow base 5 1 (.slice A n cap) n (u8s zs))(hn:zs.length=n):OwnV w base 5 A cap zs:=by
 unfold OwnV
 rw [hn]
 exact h
theorem zeros_step {w W8 W9:World}{A:Option Addr}{cap:Nat}{zs:List Int}(hb:Below w.heap.size w W8)(ho:OwnV W8 w.heap.size 5 A cap zs)(hg:W8.grownBy W9 (rowOf A)):Below w.heap.size w W9:=
 hb.grown hg hb.size (fun k hk=>by
  cases A with
  | none=>cases hk
  | some a=>exact (ownsRow_lt ho k (by simpa [rowOf,Value.ownBlock] using hk)).1)
theorem sh_len (k s:Nat):(shA k++shB k++shC k++shD k k++shE s).length=12+2 * k+4 * k+4:=by
 rw [List.length_append,List.length_append,List.length_append,List.length_append,shB_length,shD_length]
 show 8+2 * k+4+4 * k+4=_
 omega
set_option maxRecDepth 100000 in
set_option maxHeartbeats 16000000 in
theorem fshares_go (a s:Nat)(ha:a<256)(hs:s<256)(w:World)(hT:Tabs w):Calls Tryd.prog 12 #[.int .u8 a,.int .u8 s] w fun e w'=>e=.returned (.bool true)∧Below w.heap.size w w':=by
 have HT:=Lib.hid hT
 have hrem:=Int.tmod_eq_emod_of_nonneg (a:=(a:Int)) (b:=16) (by omega)
 obtain ⟨k,hk⟩:∃ k:Nat,1+(a:Int) % 16=k:=⟨(1+(a:Int) % 16).toNat,by omega⟩
 obtain ⟨q,hq⟩:∃ q:Int,(a:Int) % 16=q:=⟨_,rfl⟩
 rw [hq] at hrem hk
 have hq0:0≤q∧q<16:=by omega
 have hk1:1≤k∧k≤16:=by omega
 have hwq:=IntWalk.i64_in q ⟨by omega,by omega⟩
 have hwk:=IntWalk.i64_in (k:Int) ⟨by omega,by omega⟩
 have hws:=IntWalk.i64_in (s:Int) ⟨by omega,by omega⟩
 have HKK:=Lib.hid hk1
 have HSS:=Lib.hid hs
 clear hT hq ha hs
 go_enter Tryd.func12,Tryd.ntmps12
 go_wp2_with fail
 refine (awake10_any w HT.out).mono ?_
 rintro e W1 ⟨rfl,hb1⟩
 have HB1:=Lib.hid hb1
 clear hb1
 go_upto_region 5 with (fail)
 have HRB:=Lib.hid (heap_alloc_new W1 (.cells #[.string ⟨#[83]⟩,.slice none 0 0] 36))
 have HBA:=Lib.hid ((Below.refl W1.heap.size W1).alloc (Nat.le_refl _) (.cells #[.string ⟨#[83]⟩,.slice none 0 0] 36))
 generalize W1.alloc (.cells #[.string ⟨#[83]⟩,.slice none 0 0] 36)=W2 at *
 have HST:Hid (ShAt W1 k (.int .i64 ((0:Nat):Int)) W2):=Lib.hid ⟨0,none,0,Nat.zero_le _,rfl,HRB.out,World.ownsRow_nil _ _ _ _,HBA.out⟩
 clear HRB HBA hrem hq0 hwq
 go_wp2_with fail
 go_loopw [27] (fun x wr=>ShAt W1 k x wr) (fun x _=>k-(intOf x).toNat)
 case atStart=>exact HST.out
 case round =>
  obtain ⟨j,A,cap,hj,rfl,hR,hrow,hbw⟩:=hrel
  have HR:=Lib.hid hR
  have HROW:=Lib.hid hrow
  have HBW:=Lib.hid hbw
  clear hR hrow hbw
  by_cases hjl:j<k
  · have hji:(j:Int)<(k:Int):=by omega
    have hj16:(j:Int)<16:=by omega
    have hw8:IntKind.u8.wrap (97+(j:Int))=97+(j:Int):=by simp [IntKind.wrap,IntKind.bits,IntKind.signed];omega
    have hw9:=IntWalk.i64_in (97+(j:Int)) ⟨by omega,by omega⟩
    obtain ⟨_,r0,r1,q0,q1⟩:=blk2 HR.out
    have hbB:Below wr.heap.size wr (wr.alloc (.cells #[.int .u8 (97+(j:Int))] 5)):=(Below.refl _ _).alloc (Nat.le_refl _) _
    have hby:Bytes (wr.alloc (.cells #[.int .u8 (97+(j:Int))] 5)) (some ⟨wr.heap.size,0,none⟩) [97+(j:Int)]:=bytes_blk (heap_alloc_new wr (.cells #[.int .u8 (97+(j:Int))] 5)) (by intro z hz;rw [List.mem_singleton] at hz;omega)
    have k1:(convert 22 9 (.slice (some ⟨wr.heap.size,0,none⟩) 1 1)).run Tryd.prog (wr.alloc (.cells #[.int .u8 (97+(j:Int))] 5))=.ok (.string (strOfNums [97+(j:Int)])) (wr.alloc (.cells #[.int .u8 (97+(j:Int))] 5)):=conv_bytes hby 1
    have hsz:(strOfNums [97+(j:Int)]).size=1:=by rw [strOfNums_size];rfl
    have HNM:Hid (⟨#[120]⟩++strOfNums [97+(j:Int)]=shN j):=Lib.hid rfl
    generalize strOfNums [97+(j:Int)]=S at *
    have hcat:¬9223372036854775807<(⟨#[120]⟩:ByteArray).size+S.size:=by rw [hsz];decide
    have HBB:=Lib.hid hbB
    clear hsz hby hbB
    obtain ⟨i0,hi0,hzz0,hzz1,hzz2⟩:=info_parts sfld_info
    have I1:=Lib.hid hi0
    have I2:=Lib.hid hzz0
    have I3:=Lib.hid hzz1
    have I4:=Lib.hid hzz2
    clear hi0 hzz0 hzz1 hzz2
    have hz1:=HBW.out.size
    obtain ⟨hb2,_,hn2⟩:=two_start wr #[.int .u8 (97+(j:Int))] #[.string (⟨#[120]⟩++S),.int .u8 12,.int .i64 0,.int .i64 0,.int .u64 0] 5 60
    have HBN:=Lib.hid hn2
    have HBF:=Lib.hid hb2
    have HUA:=Lib.hid (row_keep hb2 HROW.out)
    clear hb2 hn2
    go_upto_region 9 with (at_builtin;refine wpList_append_own _ rfl (.tmp 31) (.tmp 40) 34 rfl (W1.heap.size+1) 60 i0 _ 5 48 Tryd.underlying34 I1.out I2.out I3.out I4.out rfl (by decide) _ j (sfldsCells (shF j)) rfl HUA.out _ 1 1 [.string (⟨#[120]⟩++S),.int .u8 12,.int .i64 0,.int .i64 0,.int .u64 0] rfl rfl (World.news_of_block HBN.out) (by intro u hu;simp at hu;rcases hu with rfl|rfl|rfl|rfl|rfl<;>rfl) (by unfold maxLen;omega) (by omega) (by simp;have:=blk_lt HR.out;omega) ?_;intro v4 W8 hown4 hg4 hx;clear hx;obtain ⟨a4,m4,rfl⟩:=ownsRow_form hown4;obtain ⟨s1',s2',s3',s4'⟩:=step2 HBW.out HR.out HROW.out HBF.out hg4 hown4;obtain ⟨_,d0,d1,e0,e1⟩:=blk2 s4';have S1:=Lib.hid s1';have S2:=Lib.hid s2';have S3:=Lib.hid s3';clear s1' s2' s3' s4' hown4 hg4)
    go_wp2
    go_roundw
    case rel=>exact ⟨j+1,a4,m4,by omega,by go_num,S2.out,by rw [shF_succ,←HNM.out];simpa [sfldsCells,sfldCells] using S3.out,S1.out⟩
    case measure=>simp [intOf];omega
  · obtain rfl:k=j:=by omega
    have hji:¬(k:Int)<(k:Int):=by omega
    obtain ⟨_,r0,r1,q0,q1⟩:=blk2 HR.out
    clear hjl
    obtain ⟨hb2,hn1,hn2⟩:=two_start wr #[.string ⟨#[83]⟩,.slice A k cap] #[.slice (some ⟨wr.heap.size,0,none⟩) 1 1,.slice none 0 0,.int .i64 0] 36 33
    have hz1:=HBW.out.size
    have HSR:Hid (SchRows W1.heap.size ((wr.alloc (.cells #[.string ⟨#[83]⟩,.slice A k cap] 36)).alloc (.cells #[.slice (some ⟨wr.heap.size,0,none⟩) 1 1,.slice none 0 0,.int .i64 0] 33)) [(shS k,.slice A k cap)] [] (.slice (some ⟨wr.heap.size,0,none⟩) 1 1) (.slice none 0 0)):=Lib.hid {
     structs:=own_blk hn1 (by omega) (by decide) rfl
     enums:=World.ownsRow_nil _ _ _ _
     fields:=fun q hq=>by
      rw [List.mem_singleton] at hq
      subst hq
      show World.ownsRow _ W1.heap.size 60 5 (.slice A k cap) (shF k).length (sfldsCells (shF k))
      rw [shF_length]
      exact ownsRow_base (row_keep hb2 HROW.out) (Nat.le_succ _)
     names:=fun q hq=>by cases hq }
    have HB3:=Lib.hid (HBW.out.trans (hb2.mono hz1))
    have HQ:=Lib.hid hn2
    clear hb2 hn1 hn2
    go_upto_region 11 with (fail)
    generalize (wr.alloc (.cells #[.string ⟨#[83]⟩,.slice A k cap] 36)).alloc (.cells #[.slice (some ⟨wr.heap.size,0,none⟩) 1 1,.slice none 0 0,.int .i64 0] 33)=W3 at *
    generalize wr.heap.size=RR at *
    have hk16:=HKK.out
    have hw1:=IntWalk.i64_in (2 * (k:Int)) ⟨by omega,by omega⟩
    have hw2:=IntWalk.i64_in (4+2 * (k:Int)) ⟨by omega,by omega⟩
    have hw3:=IntWalk.i64_in (4 * (k:Int)) ⟨by omega,by omega⟩
    have hw4:=IntWalk.i64_in (4+4 * (k:Int)) ⟨by omega,by omega⟩
    have hw5:=IntWalk.i64_in (4+(4+2 * (k:Int))) ⟨by omega,by omega⟩
    have hu1:IntKind.u8.wrap (4+(4+2 * (k:Int)))=8+2 * (k:Int):=by simp [IntKind.wrap,IntKind.bits,IntKind.signed];omega
    have hu2:IntKind.u8.wrap (4+2 * (k:Int))=4+2 * (k:Int):=by simp [IntKind.wrap,IntKind.bits,IntKind.signed];omega
    have hu3:IntKind.u8.wrap (4+4 * (k:Int))=4+4 * (k:Int):=by simp [IntKind.wrap,IntKind.bits,IntKind.signed];omega
    have HOWN:Hid (World.ownsRow (W3.alloc (.cells (u8s (shA k)).toArray 5)) W3.heap.size 5 1 (.slice (some ⟨W3.heap.size,0,none⟩) 8 8) 8 (u8s (shA k++shB 0))):=Lib.hid (own_blk (base:=W3.heap.size) (n:=8) (size:=1) (heap_alloc_new W3 (.cells (u8s (shA k)).toArray 5)) (Nat.le_refl _) (by decide) rfl)
    have HBA2:=Lib.hid ((Below.refl W3.heap.size W3).alloc (Nat.le_refl _) (.cells (u8s (shA k)).toArray 5))
    clear HR HROW HBW hz1 HST r0 r1 q0 q1
    go_upto_region 13 with (fail)
    change Code.wp _ _ _ _ (W3.alloc (.cells (u8s (shA k)).toArray 5))
    generalize W3.alloc (.cells (u8s (shA k)).toArray 5)=W4 at *
    have HST2:Hid (ShBt W3 (fun i=>shA k++shB i) (fun i=>8+2 * i) k (.slice (some ⟨W3.heap.size,0,none⟩) 8 8) (.int .i64 ((0:Nat):Int)) W4):=Lib.hid ⟨0,some ⟨W3.heap.size,0,none⟩,8,Nat.zero_le _,rfl,rfl,HOWN.out,HBA2.out⟩
    go_wp2_with fail
    go_loopw [12,62] (fun b x wr=>ShBt W3 (fun i=>shA k++shB i) (fun i=>8+2 * i) k b x wr) (fun _ x _=>k-(intOf x).toNat)
    case atStart=>exact HST2.out
    case round =>
     obtain ⟨i,A2,c2,hi,rfl,rfl,hrow,hbw⟩:=hrel
     change wr.ownsRow W3.heap.size 5 1 (.slice A2 (8+2 * i) c2) (8+2 * i) (u8s (shA k++shB i)) at hrow
     have HROW:=Lib.hid hrow
     have HBW:=Lib.hid hbw
     clear hrow hbw
     by_cases hil:i<k
     · have hii:(i:Int)<(k:Int):=by omega
       have hv1:=IntWalk.i64_in (4 * (i:Int)) ⟨by omega,by omega⟩
       have hv2:=IntWalk.i64_in (4+4 * (i:Int)) ⟨by omega,by omega⟩
       have hv3:IntKind.u8.wrap (4+4 * (i:Int))=4+4 * (i:Int):=by simp [IntKind.wrap,IntKind.bits,IntKind.signed];omega
       obtain ⟨i0,hi0,hzz0,hzz1,hzz2⟩:=info_parts u8_infoS
       have I1:=Lib.hid hi0
       have I2:=Lib.hid hzz0
       have I3:=Lib.hid hzz1
       have I4:=Lib.hid hzz2
       clear hi0 hzz0 hzz1 hzz2
       have HBN:=Lib.hid (heap_alloc_new wr (.cells #[.int .u8 (4+4 * (i:Int)),.int .u8 0] 5))
       have hbn:=(Below.refl wr.heap.size wr).alloc (Nat.le_refl _) (.cells #[.int .u8 (4+4 * (i:Int)),.int .u8 0] 5)
       have HUA:=Lib.hid (row_keep hbn HROW.out)
       have HBF:=Lib.hid hbn
       have hzw:=HBW.out.size
       clear hbn
       go_upto_region 17 with (at_builtin;refine wpList_append_own _ rfl (.tmp 65) (.tmp 70) 22 rfl W3.heap.size 5 i0 _ 1 1 Tryd.underlying22 I1.out I2.out I3.out I4.out rfl (by decide) _ (8+2 * i) (u8s (shA k++shB i)) rfl HUA.out _ 2 2 [.int .u8 (4+4 * (i:Int)),.int .u8 0] rfl rfl ?_ (by intro u hu;simp at hu;rcases hu with rfl|rfl<;>rfl) (by unfold maxLen;omega) (by omega) (by have:=HBF.out.size;omega) ?_;exact World.news_of_block HBN.out;intro v4 W8 hown4 hg4 hx;clear hx;obtain ⟨a4,m4,rfl⟩:=ownsRow_form hown4;have HO8:=Lib.hid hown4;have HB8:=Lib.hid (u8_step HBW.out HROW.out HBF.out hg4);clear hown4 hg4)
       go_wp2
       go_roundw
       case rel=>exact ⟨i+1,a4,m4,by omega,by go_num,rfl,by show W8.ownsRow W3.heap.size 5 1 (.slice a4 (8+2 * (i+1)) m4) (8+2 * (i+1)) (u8s (shA k++shB (i+1)));rw [shB_succ,←List.append_assoc,u8s_append];exact HO8.out,HB8.out⟩
       case measure=>simp [intOf];omega
     · obtain rfl:k=i:=by omega
       have hii:¬(k:Int)<(k:Int):=by omega
       clear hil
       obtain ⟨i0,hi0,hzz0,hzz1,hzz2⟩:=info_parts u8_infoS
       have I1:=Lib.hid hi0
       have I2:=Lib.hid hzz0
       have I3:=Lib.hid hzz1
       have I4:=Lib.hid hzz2
       clear hi0 hzz0 hzz1 hzz2
       have HBN:=Lib.hid (heap_alloc_new wr (.cells #[.int .u8 (4+2 * (k:Int)),.int .u8 0,.int .u8 0,.int .u8 0] 5))
       have hbn:=(Below.refl wr.heap.size wr).alloc (Nat.le_refl _) (.cells #[.int .u8 (4+2 * (k:Int)),.int .u8 0,.int .u8 0,.int .u8 0] 5)
       have HUA:=Lib.hid (row_keep hbn HROW.out)
       have HBF:=Lib.hid hbn
       have hzw:=HBW.out.size
       clear hbn
       go_upto_region 19 with (at_builtin;refine wpList_append_own _ rfl (.tmp 73) (.tmp 76) 22 rfl W3.heap.size 5 i0 _ 1 1 Tryd.underlying22 I1.out I2.out I3.out I4.out rfl (by decide) _ (8+2 * k) (u8s (shA k++shB k)) rfl HUA.out _ 4 4 [.int .u8 (4+2 * (k:Int)),.int .u8 0,.int .u8 0,.int .u8 0] rfl rfl ?_ (by intro u hu;simp at hu;rcases hu with rfl|rfl<;>rfl) (by unfold maxLen;omega) (by omega) (by have:=HBF.out.size;omega) ?_;exact World.news_of_block HBN.out;intro v4 W8 hown4 hg4 hx;clear hx;obtain ⟨a4,m4,rfl⟩:=ownsRow_form hown4;have HO8:=Lib.hid hown4;have HB8:=Lib.hid (u8_step HBW.out HROW.out HBF.out hg4);clear hown4 hg4)
       have HST3:Hid (ShBt W3 (fun i=>shA k++shB k++shC k++shD k i) (fun i=>12+2 * k+4 * i) k (.slice a4 (8+2 * k+4) m4) (.int .i64 ((0:Nat):Int)) W8):=Lib.hid ⟨0,a4,m4,Nat.zero_le _,rfl,by show Value.slice a4 (8+2 * k+4) m4=.slice a4 (12+2 * k+4 * 0) m4;rw [show 8+2 * k+4=12+2 * k+4 * 0 by omega],by show W8.ownsRow W3.heap.size 5 1 (.slice a4 (12+2 * k+4 * 0) m4) (12+2 * k+4 * 0) (u8s (shA k++shB k++shC k++shD k 0));rw [show 12+2 * k+4 * 0=8+2 * k+4 by omega,show shD k 0=[] from rfl,List.append_nil,u8s_append];exact HO8.out,HB8.out⟩
       clear HROW HBW HUA HBF HBN HO8 HB8 I1 I2 I3 I4 hzw HST2
       go_wp2_with fail
       go_loopw [12,79] (fun b x wr=>ShBt W3 (fun i=>shA k++shB k++shC k++shD k i) (fun i=>12+2 * k+4 * i) k b x wr) (fun _ x _=>k-(intOf x).toNat)
       case atStart=>exact HST3.out
       case round =>
        obtain ⟨i,A2,c2,hi,rfl,rfl,hrow,hbw⟩:=hrel
        change wr.ownsRow W3.heap.size 5 1 (.slice A2 (12+2 * k+4 * i) c2) (12+2 * k+4 * i) (u8s (shA k++shB k++shC k++shD k i)) at hrow
        have HROW:=Lib.hid hrow
        have HBW:=Lib.hid hbw
        clear hrow hbw
        by_cases hil:i<k
        · have hii:(i:Int)<(k:Int):=by omega
          have hv1:=IntWalk.i64_in ((k:Int)-(i:Int)) ⟨by omega,by omega⟩
          have hv2:=IntWalk.i64_in (4 * ((k:Int)-(i:Int))) ⟨by omega,by omega⟩
          have hv3:IntKind.u8.wrap (4 * ((k:Int)-(i:Int)))=4 * ((k:Int)-(i:Int)):=by simp [IntKind.wrap,IntKind.bits,IntKind.signed];omega
          obtain ⟨i0,hi0,hzz0,hzz1,hzz2⟩:=info_parts u8_infoS
          have I1:=Lib.hid hi0
          have I2:=Lib.hid hzz0
          have I3:=Lib.hid hzz1
          have I4:=Lib.hid hzz2
          clear hi0 hzz0 hzz1 hzz2
          have HBN:=Lib.hid (heap_alloc_new wr (.cells #[.int .u8 (4 * ((k:Int)-(i:Int))),.int .u8 0,.int .u8 0,.int .u8 0] 5))
          have hbn:=(Below.refl wr.heap.size wr).alloc (Nat.le_refl _) (.cells #[.int .u8 (4 * ((k:Int)-(i:Int))),.int .u8 0,.int .u8 0,.int .u8 0] 5)
          have HUA:=Lib.hid (row_keep hbn HROW.out)
          have HBF:=Lib.hid hbn
          have hzw:=HBW.out.size
          clear hbn
          go_upto_region 23 with (at_builtin;refine wpList_append_own _ rfl (.tmp 82) (.tmp 88) 22 rfl W3.heap.size 5 i0 _ 1 1 Tryd.underlying22 I1.out I2.out I3.out I4.out rfl (by decide) _ (12+2 * k+4 * i) (u8s (shA k++shB k++shC k++shD k i)) rfl HUA.out _ 4 4 [.int .u8 (4 * ((k:Int)-(i:Int))),.int .u8 0,.int .u8 0,.int .u8 0] rfl rfl ?_ (by intro u hu;simp at hu;rcases hu with rfl|rfl<;>rfl) (by unfold maxLen;omega) (by omega) (by have:=HBF.out.size;omega) ?_;exact World.news_of_block HBN.out;intro v4 W8 hown4 hg4 hx;clear hx;obtain ⟨a4,m4,rfl⟩:=ownsRow_form hown4;have HO8:=Lib.hid hown4;have HB8:=Lib.hid (u8_step HBW.out HROW.out HBF.out hg4);clear hown4 hg4)
          go_wp2
          go_roundw
          case rel=>exact ⟨i+1,a4,m4,by omega,by go_num,by show Value.slice a4 (12+2 * k+4 * i+4) m4=.slice a4 (12+2 * k+4 * (i+1)) m4;rw [show 12+2 * k+4 * (i+1)=12+2 * k+4 * i+4 by omega],by show W8.ownsRow W3.heap.size 5 1 (.slice a4 (12+2 * k+4 * (i+1)) m4) (12+2 * k+4 * (i+1)) (u8s (shA k++shB k++shC k++shD k (i+1)));rw [shD_succ,←List.append_assoc,u8s_append,show 12+2 * k+4 * (i+1)=12+2 * k+4 * i+4 by omega];exact HO8.out,HB8.out⟩
          case measure=>simp [intOf];omega
        · obtain rfl:k=i:=by omega
          have hii:¬(k:Int)<(k:Int):=by omega
          clear hil
          obtain ⟨i0,hi0,hzz0,hzz1,hzz2⟩:=info_parts u8_infoS
          have I1:=Lib.hid hi0
          have I2:=Lib.hid hzz0
          have I3:=Lib.hid hzz1
          have I4:=Lib.hid hzz2
          clear hi0 hzz0 hzz1 hzz2
          have HBN:=Lib.hid (heap_alloc_new wr (.cells #[.int .u8 (s:Int),.int .u8 0,.int .u8 0,.int .u8 0] 5))
          have hbn:=(Below.refl wr.heap.size wr).alloc (Nat.le_refl _) (.cells #[.int .u8 (s:Int),.int .u8 0,.int .u8 0,.int .u8 0] 5)
          have HUA:=Lib.hid (row_keep hbn HROW.out)
          have HBF:=Lib.hid hbn
          have hzw:=HBW.out.size
          clear hbn
          have HLN:=Lib.hid (sh_len k s)
          have hus:IntKind.u8.wrap (s:Int)=(s:Int):=by have:=HSS.out;simp [IntKind.wrap,IntKind.bits,IntKind.signed];omega
          have hs256:=HSS.out
          go_upto_region 25 with (first|(at_builtin;refine wpList_append_own _ rfl (.tmp 91) (.tmp 94) 22 rfl W3.heap.size 5 i0 _ 1 1 Tryd.underlying22 I1.out I2.out I3.out I4.out rfl (by decide) _ (12+2 * k+4 * k) (u8s (shA k++shB k++shC k++shD k k)) rfl HUA.out _ 4 4 [.int .u8 (s:Int),.int .u8 0,.int .u8 0,.int .u8 0] rfl rfl ?_ (by intro u hu;simp at hu;rcases hu with rfl|rfl<;>rfl) (by unfold maxLen;omega) (by omega) (by have:=HBF.out.size;omega) ?_;exact World.news_of_block HBN.out;intro v4 W8 hown4 hg4 hx;clear hx;obtain ⟨a4,m4,rfl⟩:=ownsRow_form hown4;have HO8:=Lib.hid hown4;have HB8:=Lib.hid (u8_step HBW.out HROW.out HBF.out hg4);clear hown4 hg4;have HOV:=Lib.hid (ownv_of (zs:=shA k++shB k++shC k++shD k k++shE s) (by rw [u8s_append];exact HO8.out) HLN.out))|(at_builtin;refine wpList_app_zeros _ rfl (.tmp 95) (.tmp 96) 22 3 rfl W3.heap.size 5 i0 Tryd.underlying22 Tryd.underlying3 I1.out I2.out I3.out I4.out a4 m4 (shA k++shB k++shC k++shD k k++shE s) (12+2 * k+4 * k+4) s HLN.out rfl HOV.out rfl (by omega) HB8.out.size ?_;intro A5 c5 W9 hown5 hg5 hfr5;clear hfr5;have HO9:=Lib.hid hown5;have HB9:=Lib.hid (zeros_step HB8.out HOV.out hg5);clear hown5 hg5))
          have HLZ:=Lib.hid (shZ_length k s)
          have HO10:Hid (W9.ownsRow W3.heap.size 5 1 (.slice A5 (12+2 * k+4 * k+4+s) c5) (12+2 * k+4 * k+4+s) (u8s (shZ k s))):=Lib.hid (by have h:=HO9.out;unfold OwnV at h;rw [show (shA k++shB k++shC k++shD k k++shE s++zeros s).length=12+2 * k+4 * k+4+s from HLZ.out.trans (by omega)] at h;exact h)
          have HLE:Hid ((shZ k s).length=12+2 * k+4 * k+4+s):=Lib.hid (HLZ.out.trans (by omega))
          have HIN:Hid (Bytes W9 A5 (shZ k s)):=Lib.hid (Bytes.mono (by rw [hide_size];exact Nat.le_refl _) (fun p x hp=>(hide_some hp).2) (bytes_own (S:=fun _=>false) HO10.out (shZ_rng hk16.2 hs256) (fun _ _=>rfl)).1)
          have HCP:=Lib.hid (row_cap HO10.out)
          have HQ9:=Lib.hid (blk_below HQ.out HB9.out (blk_lt HQ.out))
          have HBW9:=Lib.hid ((HB1.out.trans (HB3.out.mono HB1.out.size)).trans (HB9.out.mono (Nat.le_trans HB1.out.size HB3.out.size)))
          have HA9:Hid (Amb w.heap.size W9):=Lib.hid (fun V hV=>HT.out.below (Nat.le_refl _) (HBW9.out.trans hV))
          have HR9:=Lib.hid (HSR.out.below HB9.out)
          have HWL:=Lib.hid HBW9.out.size
          obtain ⟨m,hm⟩:∃ m:Int,(k:Int) * (4+(s:Int))=m:=⟨_,rfl⟩
          have hmn:((k * (4+s):Nat):Int)=m:=by rw [←hm];simp
          have hmb:0≤m∧m≤5000:=by
           have h5:k * (4+s)≤16 * 260:=Nat.mul_le_mul (by omega) (by omega)
           omega
          have HSOK:=Lib.hid (sh_ok hk16.1 hk16.2 hs256)
          clear HROW HBW HUA HBF HBN HO8 HB8 HOV HO9 HO10 HB9 HSR HQ HT I1 I2 I3 I4 hzw HLN HST3 hus hw1 hw2 hw3 hw4 hw5 hu1 hu2 hu3
          have HEN:Hid (Calls Tryd.prog 39 #[] W9.drew fun e w'=>e=.returned (.pointer (some ⟨W9.heap.size,0,none⟩))∧w'.heap[W9.heap.size]?=some (.cells #[.int .i64 1099511627776,.bool false] 140 (0,0))∧Below W9.heap.size W9.drew w'):=Lib.hid (enough_any W9.drew)
          have HRD:Hid (∀ V,Below W9.heap.size W9 V→V.heap[W9.heap.size]?=some (.cells #[.int .i64 1099511627776,.bool false] 140 (0,0))→Calls Tryd.prog 38 #[.agg #[.slice (some ⟨RR,0,none⟩) 1 1,.slice none 0 0,.int .i64 0],.slice A5 (12+2 * k+4 * k+4+s) c5,.pointer (some ⟨W9.heap.size,0,none⟩)] V fun e w'=>Below W9.heap.size W9 w'∧((∃ T rv,e=.returned (.tuple #[.iface T rv,.int .i64 0])∧4+2 * (k:Int)+(4+4 * (k:Int))+m≤16+6 * (k:Int)+(s:Int))∨(e=.returned (.tuple #[.nilIface,.int .i64 20])∧¬4+2 * (k:Int)+(4+4 * (k:Int))+m≤16+6 * (k:Int)+(s:Int)))):=Lib.hid (fun V hV hm'=>by
           have h5:=fread_any V (B:=w.heap.size) (ss:=[(shS k,.slice A k cap)]) (es:=[]) (bc:=c5) 0 (HR9.out.below hV) (sh_M hk16.2 _) (sh_D k _) ⟨by decide,fun q hq=>by cases hq⟩ (by decide:0<1) (HIN.out.below (Nat.le_refl _) hV) (by rw [HLE.out];omega) (by rw [HLE.out];exact HCP.out) hm' (by omega) HWL.out (HA9.out.below (hV.mono HWL.out))
           have hok:=HSOK.out
           unfold shOk at hok
           rw [beq_iff_eq,shZ_length] at hok
           rw [HLE.out] at h5
           refine h5.mono ?_
           rintro e w' ⟨hx,ml',mo,hm'',hpost⟩
           refine ⟨hV.trans ((hx.mono hV.size).below (Nat.le_refl _)),?_⟩
           rcases hpost with ⟨v,l,x,h1,h2,h3,h4,_⟩|⟨h1,h2⟩|⟨_,h1,h2⟩
           · obtain ⟨T,rv,rfl⟩:=h4.iface
             refine .inl ⟨T,rv,h3,?_⟩
             rw [shZ_length] at h2
             rw [show flatZ [cR (shS k)] [] (shZ k s) 12 13 0 0 0 ((16+6 * k+s:Nat):Int)=some (v,l) from h2] at hok
             have h6:=of_decide_eq_true (p:=4+2 * k+(4+4 * k)+k * (4+s)≤16+6 * k+s) hok.symm
             omega
           · refine .inr ⟨h1,?_⟩
             rcases h2 with h2|h2
             · rw [HLE.out] at h2
               omega
             · rw [shZ_length] at h2
               rw [show flatZ [cR (shS k)] [] (shZ k s) 12 13 0 0 0 ((16+6 * k+s:Nat):Int)=none from h2] at hok
               have h6:=of_decide_eq_false (p:=4+2 * k+(4+4 * k)+k * (4+s)≤16+6 * k+s) hok.symm
               omega
           · exfalso
             rw [HLE.out] at h2
             omega)
          have HTD:Hid (∀ V,Below W9.heap.size W9 V→Calls Tryd.prog 36 #[.agg #[.slice (some ⟨RR,0,none⟩) 1 1,.slice none 0 0,.int .i64 0],.slice A5 (12+2 * k+4 * k+4+s) c5] V fun e w'=>e=.returned (.bool true)∧Below V.heap.size V w'):=Lib.hid (fun V hV=>by
           have h5:=ftold_any V (ss:=[(shS k,.slice A k cap)]) (es:=[]) (bc:=c5) 0 (HR9.out.below hV) (sh_M hk16.2 _) (sh_D k _) ⟨by decide,fun q hq=>by cases hq⟩ (sh_F k _) (by decide:0<1) (HIN.out.below (Nat.le_refl _) hV) (by rw [HLE.out];omega) (by rw [HLE.out];exact HCP.out) (fun X hX=>HA9.out X ((hV.mono HWL.out).trans (hX.mono (Nat.le_trans HWL.out hV.size))))
           rw [HLE.out] at h5
           exact h5)
          have hz1:=IntWalk.i64_in (4+(s:Int)) ⟨by omega,by omega⟩
          have hz2:=IntWalk.i64_in m ⟨by omega,by omega⟩
          have hz3:=IntWalk.i64_in (4+2 * (k:Int)+(4+4 * (k:Int))) ⟨by omega,by omega⟩
          have hz4:=IntWalk.i64_in (4+2 * (k:Int)+(4+4 * (k:Int))+m) ⟨by omega,by omega⟩
          clear HSOK hmn
          obtain ⟨_,s0,s1,s2,_⟩:=blk3 HQ9.out
          refine wp_region_noPanic ?_
          refine wp_region_held_drew (S:=(fun w'=>w'.cell? ⟨RR+1,0,none⟩=some (.slice (some ⟨RR,0,none⟩) 1 1)∧w'.cell? ⟨RR+1,1,none⟩=some (.slice none 0 0)∧w'.cell? ⟨RR+1,2,none⟩=some (.int .i64 0))) (by kernel_rfl) ⟨s0,s1,s2⟩ ?_
          intro hS
          refine wpAnyH_take (i:=0) (v:=.agg #[.slice (some ⟨RR,0,none⟩) 1 1,.slice none 0 0,.int .i64 0]) rfl (by kernel_rfl) (by kernel_rfl) (by kernel_rfl) (fun _ _ _ h=>h) (Or.inl ⟨by rfl,?_⟩) hS ?_
          · intro w' hSw
            obtain ⟨s0,s1,s2⟩:=hSw
            go_simp
          simp only [Act.put,List.getElem_toArray,List.getElem_cons_zero,List.setIfInBounds_toArray,List.set_cons_zero,List.set_cons_succ]
          refine wpAnyH_take (i:=1) (v:=.slice A5 (12+2 * k+4 * k+4+s) c5) rfl (by kernel_rfl) (by kernel_rfl) (by kernel_rfl) (fun _ _ _ h=>h) (Or.inl ⟨by rfl,?_⟩) hS ?_
          · intro w' hSw
            obtain ⟨s0,s1,s2⟩:=hSw
            go_simp
          simp only [Act.put,List.getElem_toArray,List.getElem_cons_succ,List.getElem_cons_zero,List.setIfInBounds_toArray,List.set_cons_zero,List.set_cons_succ]
          refine wpAnyH_ready (rs:=[2]) (by kernel_rfl) (by decide) (AllReadyH.cons rfl (fun K hK=>?_) AllReadyH.nil)
          rw [if_pos (by kernel_rfl)]
          go_simp
          refine HEN.out.mono ?_
          rintro e W10 ⟨rfl,hmt,hb6⟩
          have hb6':Below W9.heap.size W9 W10:=(Below.refl _ W9).drew.trans hb6
          have n0:=cell_stays hb6' s0
          have n1:=cell_stays hb6' s1
          have n2:=cell_stays hb6' s2
          refine hK.out _ _ ⟨n0,n1,n2⟩ (fun hS=>?_)
          clear n0 n1 n2
          refine wpAnyH_ready (rs:=[3]) (by kernel_rfl) (by decide) (AllReadyH.cons rfl (fun K hK=>?_) AllReadyH.nil)
          rw [if_pos (by kernel_rfl)]
          go_simp
          refine (HRD.out W10 hb6' hmt).mono ?_
          rintro e W11 ⟨hb7,hpost⟩
          have n0:=cell_stays hb7 s0
          have n1:=cell_stays hb7 s1
          have n2:=cell_stays hb7 s2
          rcases hpost with ⟨T,rv,rfl,hcond⟩|⟨rfl,hcond⟩
          · refine hK.out _ _ ⟨n0,n1,n2⟩ (fun hS=>?_)
            clear n0 n1 n2
            refine wpAnyH_take (i:=4) (v:=.tuple #[.iface T rv,.int .i64 0]) rfl (by kernel_rfl) (by kernel_rfl) (by kernel_rfl) (fun _ _ _ h=>h) (Or.inl ⟨by rfl,?_⟩) hS ?_
            · intro w' hSw
              obtain ⟨s0,s1,s2⟩:=hSw
              go_simp
            simp only [Act.put,List.getElem_toArray,List.getElem_cons_succ,List.getElem_cons_zero,List.setIfInBounds_toArray,List.set_cons_zero,List.set_cons_succ]
            refine wpAnyH_take (i:=5) (v:=.iface T rv) rfl (by kernel_rfl) (by kernel_rfl) (by kernel_rfl) (fun _ _ _ h=>h) (Or.inl ⟨by rfl,?_⟩) hS ?_
            · intro w' hSw
              obtain ⟨s0,s1,s2⟩:=hSw
              go_simp
            simp only [Act.put,List.getElem_toArray,List.getElem_cons_succ,List.getElem_cons_zero,List.setIfInBounds_toArray,List.set_cons_zero,List.set_cons_succ]
            refine wpAnyH_take (i:=6) (v:=.int .i64 0) rfl (by kernel_rfl) (by kernel_rfl) (by kernel_rfl) (fun _ _ _ h=>h) (Or.inl ⟨by rfl,?_⟩) hS ?_
            · intro w' hSw
              obtain ⟨s0,s1,s2⟩:=hSw
              go_simp
            simp only [Act.put,List.getElem_toArray,List.getElem_cons_succ,List.getElem_cons_zero,List.setIfInBounds_toArray,List.set_cons_zero,List.set_cons_succ]
            refine wpAnyH_take (i:=7) (v:=.iface T rv) rfl (by kernel_rfl) (by kernel_rfl) (by kernel_rfl) (fun _ _ _ h=>h) (Or.inl ⟨by rfl,?_⟩) hS ?_
            · intro w' hSw
              obtain ⟨s0,s1,s2⟩:=hSw
              go_simp
            simp only [Act.put,List.getElem_toArray,List.getElem_cons_succ,List.getElem_cons_zero,List.setIfInBounds_toArray,List.set_cons_zero,List.set_cons_succ]
            refine wpAnyH_take (i:=8) (v:=.int .i64 0) rfl (by kernel_rfl) (by kernel_rfl) (by kernel_rfl) (fun _ _ _ h=>h) (Or.inl ⟨by rfl,?_⟩) hS ?_
            · intro w' hSw
              obtain ⟨s0,s1,s2⟩:=hSw
              go_simp
            simp only [Act.put,List.getElem_toArray,List.getElem_cons_succ,List.getElem_cons_zero,List.setIfInBounds_toArray,List.set_cons_zero,List.set_cons_succ]
            refine wpAnyH_done (by kernel_rfl) ?_ _
            refine NoPanic.normal ?_
            try simp only [Exit.then]
            have HB11:=Lib.hid hb7
            have HQ11:=Lib.hid (blk_below HQ9.out hb7 (blk_lt HQ9.out))
            clear hb7 hb6 hb6' hmt hS s0 s1 s2
            have hle:4+2 * (k:Int)+(4+4 * (k:Int))+m≤12+2 * (k:Int)+4 * (k:Int)+4+(s:Int):=by omega
            obtain ⟨_,s0,s1,s2,_⟩:=blk3 HQ11.out
            go_wp2_with fail
            refine (HTD.out W11 HB11.out).mono ?_
            rintro e W12 ⟨rfl,hb8⟩
            have HB12:=Lib.hid (HB11.out.trans (hb8.mono HB11.out.size))
            clear hb8 s0 s1 s2
            go_wp2
            go_ret
            exact ⟨rfl,HBW9.out.trans (HB12.out.mono HBW9.out.size)⟩
          · refine hK.out _ _ ⟨n0,n1,n2⟩ (fun hS=>?_)
            clear n0 n1 n2
            refine wpAnyH_take (i:=4) (v:=.tuple #[.nilIface,.int .i64 20]) rfl (by kernel_rfl) (by kernel_rfl) (by kernel_rfl) (fun _ _ _ h=>h) (Or.inl ⟨by rfl,?_⟩) hS ?_
            · intro w' hSw
              obtain ⟨s0,s1,s2⟩:=hSw
              go_simp
            simp only [Act.put,List.getElem_toArray,List.getElem_cons_succ,List.getElem_cons_zero,List.setIfInBounds_toArray,List.set_cons_zero,List.set_cons_succ]
            refine wpAnyH_take (i:=5) (v:=.nilIface) rfl (by kernel_rfl) (by kernel_rfl) (by kernel_rfl) (fun _ _ _ h=>h) (Or.inl ⟨by rfl,?_⟩) hS ?_
            · intro w' hSw
              obtain ⟨s0,s1,s2⟩:=hSw
              go_simp
            simp only [Act.put,List.getElem_toArray,List.getElem_cons_succ,List.getElem_cons_zero,List.setIfInBounds_toArray,List.set_cons_zero,List.set_cons_succ]
            refine wpAnyH_take (i:=6) (v:=.int .i64 20) rfl (by kernel_rfl) (by kernel_rfl) (by kernel_rfl) (fun _ _ _ h=>h) (Or.inl ⟨by rfl,?_⟩) hS ?_
            · intro w' hSw
              obtain ⟨s0,s1,s2⟩:=hSw
              go_simp
            simp only [Act.put,List.getElem_toArray,List.getElem_cons_succ,List.getElem_cons_zero,List.setIfInBounds_toArray,List.set_cons_zero,List.set_cons_succ]
            refine wpAnyH_take (i:=7) (v:=.nilIface) rfl (by kernel_rfl) (by kernel_rfl) (by kernel_rfl) (fun _ _ _ h=>h) (Or.inl ⟨by rfl,?_⟩) hS ?_
            · intro w' hSw
              obtain ⟨s0,s1,s2⟩:=hSw
              go_simp
            simp only [Act.put,List.getElem_toArray,List.getElem_cons_succ,List.getElem_cons_zero,List.setIfInBounds_toArray,List.set_cons_zero,List.set_cons_succ]
            refine wpAnyH_take (i:=8) (v:=.int .i64 20) rfl (by kernel_rfl) (by kernel_rfl) (by kernel_rfl) (fun _ _ _ h=>h) (Or.inl ⟨by rfl,?_⟩) hS ?_
            · intro w' hSw
              obtain ⟨s0,s1,s2⟩:=hSw
              go_simp
            simp only [Act.put,List.getElem_toArray,List.getElem_cons_succ,List.getElem_cons_zero,List.setIfInBounds_toArray,List.set_cons_zero,List.set_cons_succ]
            refine wpAnyH_done (by kernel_rfl) ?_ _
            refine NoPanic.normal ?_
            try simp only [Exit.then]
            have HB11:=Lib.hid hb7
            have HQ11:=Lib.hid (blk_below HQ9.out hb7 (blk_lt HQ9.out))
            clear hb7 hb6 hb6' hmt hS s0 s1 s2
            have hle:¬4+2 * (k:Int)+(4+4 * (k:Int))+m≤12+2 * (k:Int)+4 * (k:Int)+4+(s:Int):=by omega
            obtain ⟨_,s0,s1,s2,_⟩:=blk3 HQ11.out
            go_wp2_with fail
            refine (HTD.out W11 HB11.out).mono ?_
            rintro e W12 ⟨rfl,hb8⟩
            have HB12:=Lib.hid (HB11.out.trans (hb8.mono HB11.out.size))
            clear hb8 s0 s1 s2
            go_wp2
            go_ret
            exact ⟨rfl,HBW9.out.trans (HB12.out.mono HBW9.out.size)⟩
theorem flatreadShares_walk (n size:Int)(w:World)(h1:(Lit.int .u8 n).wf=true)(h2:(Lit.int .u8 size).wf=true)(hT:Tabs w) :
  Calls Tryd.prog 12 #[.int .u8 n,.int .u8 size] w fun e w'=>e=.returned (.bool true)∧Below w.heap.size w w':=by
 have hb:=bounds_u8 h1
 have hc:=bounds_u8 h2
 obtain ⟨x,rfl⟩:∃ x:Nat,n=x:=⟨n.toNat,by omega⟩
 obtain ⟨y,rfl⟩:∃ y:Nat,size=y:=⟨size.toNat,by omega⟩
 exact fshares_go x y (by omega) (by omega) w hT
end Go.Proofs.YtachghaegokpdaaDoor
namespace Go.Proofs.YtachghaegokpdaaDoor
open Go.ChangeShapes Go.WideShapes Go.ChangeAt Go.RowKit
open Go.ChangeMaps (open_string shut_string)
namespace flatreadSharesFrame
theorem laid_met (os:Os):laidMet Tryd.prog Rows.flatreadSharesRow.laid ((laidWorld os).forCall (fun _ _=>0) ⟨#[],#[Value.int .u8 0,Value.int .u8 0],[]⟩).memory:=
 laidMet_of_run' 8 (by kernel_rfl) (by kernel_rfl)
theorem reads (os:Os){H:Type}(enc:TypeId × Value→H):∃ places,DataW.whole enc Tryd.prog ((laidWorld os).forCall (fun _ _=>0) ⟨#[],#[Value.int .u8 0,Value.int .u8 0],[]⟩).memory Tryd.f12.params.toList Rows.flatreadSharesSpec.vars false #[Value.int .u8 0,Value.int .u8 0].toList 8=some ([.lit (.int .u8 0),.lit (.int .u8 0)],[],places):=
 ⟨[],by kernel_rfl⟩
set_option maxRecDepth 100000 in
theorem contract (H:Type)(enc:TypeId × Value→H)(W:World)(base:Nat)(args:Array Value)(ds gs:List (DataW H))(before:List MemPlace)
  (hval0:∀ (j:Nat) t v,Tryd.f12.params[j]?=some t→args[j]?=some v→Value.okWide Tryd.prog W .any base t v)
  (hW:DataW.Whole enc Tryd.prog Tryd.f12.params.toList Rows.flatreadSharesSpec.vars false W args.toList ds gs before) (hL:laidMetH Tryd.prog Rows.flatreadSharesRow.laid W) :
  Calls Tryd.prog 12 args W fun e W'=>∃ v,e=.returned v∧Rows.flatreadSharesSpec.post enc Tryd.prog Tryd.f12 false true false false W args v W':=by
 have hval:∀ (j:Nat) t v,Tryd.f12.params[j]?=some t→args[j]?=some v→Value.okWide Tryd.prog W .any base t v:=hval0
 have hW':=hW
 obtain ⟨p,q,hA0,hV,rfl,_hfz,_hnd⟩:=hW
 have hA:DataW.TrodAll enc Tryd.prog W 0 (fun _=>true) true Tryd.f12.params.toList args.toList ds p:=hA0
 rw [Tryd.params12] at hA hval
 obtain ⟨v0,vs0,d0,ds0,p0,q0,hargs,rfl,rfl,h0,r0⟩:=trodAll_cons hA
 obtain ⟨v1,vs1,d1,ds1,p1,q1,rfl,rfl,rfl,h1,r1⟩:=trodAll_cons r0
 obtain ⟨rfl,rfl,rfl⟩:=trodAll_nil r1
 obtain rfl:args=#[v0,v1]:=by cases args;simp_all
 obtain ⟨rfl,rfl⟩:=trodVars_none hV
 obtain ⟨a0,rfl,rfl,rfl,w0⟩:=open_int Tryd.underlying5 (hval 0 5 v0 rfl rfl) h0
 obtain ⟨a1,rfl,rfl,rfl,w1⟩:=open_int Tryd.underlying5 (hval 1 5 v1 rfl rfl) h1
 clear hA0 hval0
 refine (flatreadShares_walk a0 a1 W w0 w1 (tabs_of_laid hL)).mono fun e W' ⟨he,bel⟩=>?_
 subst he
 exact ⟨_,rfl,_,_,_,[],_,[],hW',trodAll_mk1 (shut_bool Tryd.underlying4 _),(trodAll_cons_mk (shut_int Tryd.underlying5 w0) (trodAll_cons_mk (shut_int Tryd.underlying5 w1) trodAll_mk0)),rfl,bel.frame _,fun h=>by cases h⟩
set_option maxRecDepth 100000 in
theorem lifted (os:Os)(started:os.Started)(H:Type)(enc:TypeId × Value→H)(F:Stop.Interp) :
  ReturnsInHanded {} Tryd.checked os 12 .any ((OpenSpec.ofChange Rows.flatreadSharesSpec).preRow enc Tryd.prog Tryd.f12 Rows.flatreadSharesRow.domain false Rows.flatreadSharesRow.laid) (((OpenSpec.ofChange Rows.flatreadSharesSpec).at F).post enc Tryd.prog Tryd.f12 false true false false):=by
 obtain ⟨places,hx⟩:=reads os enc
 refine returnsInHanded_of_row (C:=Tryd.checked) (s:=OpenSpec.ofChange Rows.flatreadSharesSpec) own started (by kernel_rfl) Tryd.func12
  (witness_row_at (enc:=enc) (C:=Tryd.checked) false (laidWorld os) #[Value.int .u8 0,Value.int .u8 0] rfl (by kernel_rfl) (by kernel_rfl) (by kernel_rfl)
   (OpenSpec.preRow_of_cond 8 hx (by kernel_rfl) (fun k hk=>by cases hk) (by kernel_rfl) (laid_met os))) ?_
 intro W base args ds gs before hval hW _ _ _ hL _ _
 exact contract H enc W base args ds gs before hval hW hL
theorem said:Rows.FlatreadSharesSaid:=
 OpenClaim.holds_of_cond 12 Tryd.f12 rfl rfl rfl rfl rfl rfl rfl ⟨rfl,rfl,rfl,rfl,rfl⟩ rfl rfl rfl rfl rfl (by kernel_rfl) Tryd.func12 (by kernel_rfl)
  (of_decide_eq_true (by kernel_rfl)) (by unfold Func.isWrapper;first|(rw [if_pos (by decide +kernel)];kernel_rfl)|(rw [if_neg (by decide +kernel)];exact ⟨rfl,rfl⟩))
  (fun os started H enc _ F=>by rw [OpenClaim.pre_eq_preRow];exact lifted os started H enc F)
theorem plain (f:FuncId)(fn:Func)(hf:Tryd.pinned.checked.prog.funcNamed "transom/transomlaw10.FlatreadShares" = some f)(hfn:Tryd.pinned.checked.prog.funcs[f]?=some fn) :
  false=Tryd.pinned.checked.prog.looks []∧∀ (j:Nat) t,fn.params[j]?=some t→Tryd.pinned.checked.prog.wantsStandIn t=false:=by
 obtain rfl:f=12 := Option.some.inj ((show Tryd.prog.funcNamed "transom/transomlaw10.FlatreadShares" = some 12 by kernel_rfl).symm.trans hf) |>.symm
 obtain rfl:fn=Tryd.f12 := (Option.some.inj (Tryd.func12.symm.trans hfn)).symm
 refine ⟨by kernel_rfl,fun j t ht=>?_⟩
 rw [Tryd.params12] at ht
 have hm:t=5 ∨ t=5 := by simpa using Array.mem_of_getElem? ht
 rcases hm with rfl|rfl
 · exact (show Tryd.prog.wantsStandIn 5 = false by kernel_rfl)
 · exact (show Tryd.prog.wantsStandIn 5 = false by kernel_rfl)
end flatreadSharesFrame
theorem flatreadShares_card:Rows.FlatreadSharesCardSaid:=
 Claim7.holds_tied_plain_at .later [] _ _ _ _ flatreadSharesFrame.said (fun _ h=>by cases h) (by kernel_rfl) (fun _ h=>by cases h) flatreadShares_row_tie rfl ⟨rfl,rfl⟩ (by kernel_rfl) rfl flatreadSharesFrame.plain (by kernel_rfl)
end Go.Proofs.YtachghaegokpdaaDoor
