/-
  'Exw R S B w w'': below block B the world w' is as w was, but for the blocks R and S; what keeps that. Conditions: those that each theorem names.
-/
import Derived.Test.YtachghaegokpdaaDoorPkFC1
import Derived.WalkKit
import Derived.BigQuiet
import Derived.Laws.BytesArg
import Derived.Below
namespace Go.Proofs.YtachghaegokpdaaDoor
open Go.RowKit
theorem bel_drewN {B:Nat}{a w:World}(h:Below B a w)(n:Nat):Below B a (w.drewN n):=h.trans ⟨rfl,rfl,rfl,Nat.le_refl _,fun _ _=>rfl⟩
theorem quiet_same {P:Program}{f:FuncId}{args:Array Value}{w:World}{n:Nat}{v:Value}
  (h:Calls P f args (w.drewN n) fun e w'=>e=.returned v∧w.drewN n=w'):Calls P f args (w.drewN n) fun e w''=>e=.returned v∧∃ m,w''=w.drewN m:=
 h.mono fun _ _ ⟨he,hm⟩=>⟨he,n,hm.symm⟩
theorem conv_zero {P:Program}(w:World)(src e dst:TypeId)(hs:P.underlying src=some (.slice e))(he:P.underlying e=some (.int .u8))(hd:P.underlying dst=some .string)(a:Option Addr)(c:Nat) :
  (convert src dst (.slice a 0 c)).run P w=.ok (.string (strOfNums [])) w:=by
 rw [run_convert_bytes_string w src dst e a 0 c hs he hd]
 cases a with
 | none=>simp [Conv.bytesToString];rfl
 | some x =>
  have hl:(loadCells x 0).run P w=.ok (([]:List Int).map (Value.int .u8)).toArray w:=run_loadCells_list (P:=P) w x [] (fun j v hj=>by simp at hj)
  rw [run_bytesToString w x 0 c [] hl]
  simp [strOfNums]
  rfl
end Go.Proofs.YtachghaegokpdaaDoor
namespace Go.Proofs.YtachghaegokpdaaDoor
open Go.ChangeShapes Go.WideShapes Go.ChangeAt Go.RowKit Go.Shelf
def inlC (k:Nat)(lists:Int):Int:=if numTB k lists=true then kSize k else 4
def mfldCells (f:CFld):List Value:=[.int .u8 f.kind,.int .i64 f.ref,.int .i64 f.lists,.int .i64 (inlC f.kind f.lists),.int .u64 f.dflt]
def mfldsCells (l:List CFld):List Value:=l.flatMap mfldCells
def mrowCell (q:List CFld × Value):List Value:=[q.2]
def mrowsCells (l:List (List CFld × Value)):List Value:=l.flatMap mrowCell
def cntCell (n:Nat):List Value:=[.int .i64 n]
def cntsCells (l:List Nat):List Value:=l.flatMap cntCell
structure IsMsg (base:Nat)(W:World)(m:Nat)(bp:Option Addr)(bc:Nat)(sv ev:Value)(zs:List Int)(fs:List (List CFld × Value))(ns:List Nat):Prop where
 blk:W.heap[m]?=some (.cells #[.slice bp zs.length bc,sv,ev] 164 (0,0))
 bytes:Bytes W bp zs
 len:zs.length≤16384
 cap:zs.length≤bc
 structs:W.ownsRow base 165 1 sv fs.length (mrowsCells fs)
 fields:∀ q ∈ fs,W.ownsRow base 168 5 q.2 q.1.length (mfldsCells q.1)
 enums:W.ownsRow base 3 1 ev ns.length (cntsCells ns)
theorem IsMsg.below {base:Nat}{W W':World}{m:Nat}{bp:Option Addr}{bc:Nat}{sv ev:Value}{zs:List Int}{fs:List (List CFld × Value)}{ns:List Nat}(h:IsMsg base W m bp bc sv ev zs fs ns)(hb:Below W.heap.size W W'):IsMsg base W' m bp bc sv ev zs fs ns:=
 ⟨blk_below h.blk hb (blk_lt h.blk),h.bytes.below (Nat.le_refl _) hb,h.len,h.cap,row_keep hb h.structs,fun q hq=>row_keep hb (h.fields q hq),row_keep hb h.enums⟩
def kidV (k:Nat)(ref lists at':Int)(d:Nat)(there:Bool):Value:=.agg #[.int .u8 k,.int .i64 ref,.int .i64 lists,.int .i64 at',.int .u64 d,.bool there]
def optV:Option Int→Value
 | none=>.tuple #[.int .i64 0,.bool false]
 | some x=>.tuple #[.int .i64 x,.bool true]
def tabV (t:TabZ)(at':Int):Value:=.agg #[.int .i64 at',.int .i64 t.own,.int .i64 t.la,.int .i64 t.size]
theorem blk6 {w:World}{g:Nat}{x y z u v s:Value}{t:TypeId}(h:w.heap[g]?=some (.cells #[x,y,z,u,v,s] t (0,0))) :
  g<w.heap.size∧w.cell? ⟨g,0,none⟩=some x∧w.cell? ⟨g,1,none⟩=some y∧w.cell? ⟨g,2,none⟩=some z∧w.cell? ⟨g,3,none⟩=some u∧w.cell? ⟨g,4,none⟩=some v∧w.cell? ⟨g,5,none⟩=some s:=
 ⟨blk_lt h,(blk_cell h 0).trans rfl,(blk_cell h 1).trans rfl,(blk_cell h 2).trans rfl,(blk_cell h 3).trans rfl,(blk_cell h 4).trans rfl,(blk_cell h 5).trans rfl⟩
theorem blk7 {w:World}{g:Nat}{x y z u v s r:Value}{t:TypeId}(h:w.heap[g]?=some (.cells #[x,y,z,u,v,s,r] t (0,0))) :
  g<w.heap.size∧w.cell? ⟨g,0,none⟩=some x∧w.cell? ⟨g,1,none⟩=some y∧w.cell? ⟨g,2,none⟩=some z∧w.cell? ⟨g,3,none⟩=some u∧w.cell? ⟨g,4,none⟩=some v∧w.cell? ⟨g,5,none⟩=some s∧w.cell? ⟨g,6,none⟩=some r:=
 ⟨blk_lt h,(blk_cell h 0).trans rfl,(blk_cell h 1).trans rfl,(blk_cell h 2).trans rfl,(blk_cell h 3).trans rfl,(blk_cell h 4).trans rfl,(blk_cell h 5).trans rfl,(blk_cell h 6).trans rfl⟩
theorem blk_set6 {w:World}{g:Nat}{x y z u v s:Value}{t:TypeId}(h:w.heap[g]?=some (.cells #[x,y,z,u,v,s] t (0,0)))(a b c d e f:Value) :
  ((((((w.setCell ⟨g,0,none⟩ a).setCell ⟨g,1,none⟩ b).setCell ⟨g,2,none⟩ c).setCell ⟨g,3,none⟩ d).setCell ⟨g,4,none⟩ e).setCell ⟨g,5,none⟩ f).heap[g]?=some (.cells #[a,b,c,d,e,f] t (0,0)):=
 by
 have h1:(w.setCell ⟨g,0,none⟩ a).heap[g]?=some (.cells #[a,y,z,u,v,s] t (0,0)):=(blk_set h 0 a).trans rfl
 have h2:=((blk_set h1 1 b).trans rfl:_=some (Obj.cells #[a,b,z,u,v,s] t (0,0)))
 have h3:=((blk_set h2 2 c).trans rfl:_=some (Obj.cells #[a,b,c,u,v,s] t (0,0)))
 have h4:=((blk_set h3 3 d).trans rfl:_=some (Obj.cells #[a,b,c,d,v,s] t (0,0)))
 have h5:=((blk_set h4 4 e).trans rfl:_=some (Obj.cells #[a,b,c,d,e,s] t (0,0)))
 exact (blk_set h5 5 f).trans rfl
theorem below_set6 {B:Nat}{a w:World}(h:Below B a w){g:Nat}(hg:B≤g)(x y z u v s:Value):Below B a ((((((w.setCell ⟨g,0,none⟩ x).setCell ⟨g,1,none⟩ y).setCell ⟨g,2,none⟩ z).setCell ⟨g,3,none⟩ u).setCell ⟨g,4,none⟩ v).setCell ⟨g,5,none⟩ s):=
 (((((h.setCell (p:=⟨g,0,none⟩) hg x).setCell (p:=⟨g,1,none⟩) hg y).setCell (p:=⟨g,2,none⟩) hg z).setCell (p:=⟨g,3,none⟩) hg u).setCell (p:=⟨g,4,none⟩) hg v).setCell (p:=⟨g,5,none⟩) hg s
theorem blk_set7 {w:World}{g:Nat}{x y z u v s r:Value}{t:TypeId}(h:w.heap[g]?=some (.cells #[x,y,z,u,v,s,r] t (0,0)))(a b c d e f i:Value) :
  (((((((w.setCell ⟨g,0,none⟩ a).setCell ⟨g,1,none⟩ b).setCell ⟨g,2,none⟩ c).setCell ⟨g,3,none⟩ d).setCell ⟨g,4,none⟩ e).setCell ⟨g,5,none⟩ f).setCell ⟨g,6,none⟩ i).heap[g]?=some (.cells #[a,b,c,d,e,f,i] t (0,0)):=
 by
 have h1:(w.setCell ⟨g,0,none⟩ a).heap[g]?=some (.cells #[a,y,z,u,v,s,r] t (0,0)):=(blk_set h 0 a).trans rfl
 have h2:=((blk_set h1 1 b).trans rfl:_=some (Obj.cells #[a,b,z,u,v,s,r] t (0,0)))
 have h3:=((blk_set h2 2 c).trans rfl:_=some (Obj.cells #[a,b,c,u,v,s,r] t (0,0)))
 have h4:=((blk_set h3 3 d).trans rfl:_=some (Obj.cells #[a,b,c,d,v,s,r] t (0,0)))
 have h5:=((blk_set h4 4 e).trans rfl:_=some (Obj.cells #[a,b,c,d,e,s,r] t (0,0)))
 have h6:=((blk_set h5 5 f).trans rfl:_=some (Obj.cells #[a,b,c,d,e,f,r] t (0,0)))
 exact (blk_set h6 6 i).trans rfl
theorem below_set7 {B:Nat}{a w:World}(h:Below B a w){g:Nat}(hg:B≤g)(x y z u v s r:Value):Below B a (((((((w.setCell ⟨g,0,none⟩ x).setCell ⟨g,1,none⟩ y).setCell ⟨g,2,none⟩ z).setCell ⟨g,3,none⟩ u).setCell ⟨g,4,none⟩ v).setCell ⟨g,5,none⟩ s).setCell ⟨g,6,none⟩ r):=
 ((((((h.setCell (p:=⟨g,0,none⟩) hg x).setCell (p:=⟨g,1,none⟩) hg y).setCell (p:=⟨g,2,none⟩) hg z).setCell (p:=⟨g,3,none⟩) hg u).setCell (p:=⟨g,4,none⟩) hg v).setCell (p:=⟨g,5,none⟩) hg s).setCell (p:=⟨g,6,none⟩) hg r
theorem load_in (p:Option Addr)(cap:Nat)(zs:List Int)(a n:Int)(w:World)(hz:Bytes w p zs)(hl:zs.length≤16384)(h:inZ (lenZ zs) a n=true)(hn:n=1∨n=2∨n=4∨n=8) :
  Calls Tryd.prog 111 #[.slice p zs.length cap,.int .i64 a,.int .i64 n] w fun e w'=>e=.returned (.tuple #[.int .u64 (leAt zs a.toNat n.toNat),.bool true])∧w=w':=by
 have h1:=inZ_iff.1 h
 unfold lenZ at h1
 have hne:zs≠[]:=fun e=>by subst e;simp at h1;omega
 obtain ⟨b,off,rfl,_,hc⟩:=hz.2 hne
 exact load_yes b off zs.length cap a n w zs (by omega) (Nat.le_refl _) hc hz.1 h1.1 (by omega) (by omega) hn
theorem load_out (p:Option Addr)(cap:Nat)(zs:List Int)(a n:Int)(w:World)(hl:zs.length≤16384)(h:¬inZ (lenZ zs) a n=true) :
  Calls Tryd.prog 111 #[.slice p zs.length cap,.int .i64 a,.int .i64 n] w fun e w'=>e=.returned (.tuple #[.int .u64 0,.bool false])∧w=w':=by
 refine load_no p zs.length cap a n w (by omega) ?_
 have h1:=inZ_no h
 unfold lenZ at h1
 rcases h1 with h1|h1|h1|h1
 · exact .inr (.inl h1)
 · exact .inl (by omega)
 · exact .inr (.inr (.inl h1))
 · exact .inr (.inr (.inr h1))
end Go.Proofs.YtachghaegokpdaaDoor
namespace Go.Proofs.YtachghaegokpdaaDoor
open Go.ChangeShapes Go.WideShapes Go.ChangeAt Go.RowKit Go.Shelf
theorem quiet_same2 {P:Program}{f:FuncId}{args:Array Value}{w:World}{k n:Nat}{v:Value}
  (h:Calls P f args (w.drewN (k+n)) fun e w'=>e=.returned v∧w.drewN (k+n)=w'):Calls P f args (w.drewN (k+n)) fun e w''=>e=.returned v∧∃ m,w''=w.drewN (k+m):=
 h.mono fun _ _ ⟨he,hm⟩=>⟨he,n,hm.symm⟩
set_option maxRecDepth 100000 in
set_option maxHeartbeats 4000000 in
theorem ftarget_any (w:World){base m:Nat}{bp:Option Addr}{bc:Nat}{sv ev:Value}{zs:List Int}{fs:List (List CFld × Value)}{ns:List Nat}(h:IsMsg base w m bp bc sv ev zs fs ns)(k:Nat)(ref lists at':Int)(d:Nat)(there:Bool) :
  Calls Tryd.prog 98 #[.pointer (some ⟨m,0,none⟩),kidV k ref lists at' d there] w fun e w'=>e=.returned (optV (if there=true then jumpZ zs at' else none))∧Below w.heap.size w w':=by
 have hb:=(Below.refl w.heap.size w).alloc (Nat.le_refl _) (.cells #[.int .u8 k,.int .i64 ref,.int .i64 lists,.int .i64 at',.int .u64 d,.bool there] 170)
 have HB:=Lib.hid hb
 have HM:=Lib.hid (h.below hb)
 obtain ⟨_,x0,x1,x2,x3,x4,x5⟩:=blk6 (heap_alloc_new w (.cells #[.int .u8 k,.int .i64 ref,.int .i64 lists,.int .i64 at',.int .u64 d,.bool there] 170))
 clear hb h
 unfold kidV
 cases there with
 | false =>
  go_enter Tryd.func98,Tryd.ntmps98
  go_wp2
  go_ret2
  exact ⟨rfl,HB.out⟩
 | true =>
  obtain ⟨_,m0,m1,m2,_⟩:=blk3 HM.out.blk
  rw [if_pos rfl]
  have HBY:=Lib.hid HM.out.bytes
  have hlen:=HM.out.len
  obtain ⟨jv,hjv⟩:∃ jv,jumpZ zs at'=jv:=⟨_,rfl⟩
  rw [hjv]
  have HJ0:=Lib.hid hjv
  clear hjv
  go_enter Tryd.func98,Tryd.ntmps98
  go_upto_region 3 with (fail)
  generalize w.alloc (.cells #[.int .u8 k,.int .i64 ref,.int .i64 lists,.int .i64 at',.int .u64 d,.bool true] 170)=W0 at *
  by_cases hin:inZ (lenZ zs) at' 4=true
  · have hld:=leAt_4 zs at'.toNat HBY.out.1
    have hat:=inZ_iff.1 hin
    have HL:Hid (∀ n,Calls Tryd.prog 111 #[.slice bp zs.length bc,.int .i64 at',.int .i64 4] (W0.drewN n) fun e w'=>e=.returned (.tuple #[.int .u64 (leAt zs at'.toNat 4),.bool true])∧W0.drewN n=w'):=Lib.hid (fun n=>load_in bp bc zs at' 4 _ (HBY.out.below (Nat.le_refl _) (bel_drewN (Below.refl _ _) n)) hlen hin (by decide))
    have hz:lenZ zs=(zs.length:Int):=rfl
    rw [hz] at *
    have hj:jumpZ zs at'=if at'+leAt zs at'.toNat 4≤(zs.length:Int) then some (at'+leAt zs at'.toNat 4) else none:=by
     unfold jumpZ
     rw [if_pos hin]
     rfl
    have HJ:=Lib.hid (HJ0.out.symm.trans hj)
    clear hj hin HJ0
    generalize leAt zs at'.toNat 4=z at *
    have hcv:=IntWalk.i64_in z ⟨by omega,by omega⟩
    go_quiet (first|(go_at_call 111;exact quiet_same (HL.out _)))
    go_wp2_with fail
    by_cases hle:at'+z≤(zs.length:Int)
    · have HJ2:Hid (jv=some (at'+z)):=Lib.hid (HJ.out.trans (if_pos hle))
      have HN:=Lib.hid (fun W=>next_yes at' z zs.length W (by omega) (by omega) (by omega) (by omega) (by omega))
      go_quiet (first|(go_at_call 112;exact quiet_same2 (HN.out _)))
      go_wp2
      go_ret2
      exact ⟨by rw [HJ2.out];rfl,by first|exact bel_drewN HB.out _|exact bel_drewN (bel_drewN HB.out _) _⟩
    · have HJ2:Hid (jv=none):=Lib.hid (HJ.out.trans (if_neg hle))
      have HN:=Lib.hid (fun W=>next_no at' z zs.length W (by omega) (by omega))
      go_quiet (first|(go_at_call 112;exact quiet_same2 (HN.out _)))
      go_wp2
      go_ret2
      exact ⟨by rw [HJ2.out];rfl,by first|exact bel_drewN HB.out _|exact bel_drewN (bel_drewN HB.out _) _⟩
  · have HJ:Hid (jv=none):=Lib.hid (HJ0.out.symm.trans (by unfold jumpZ;rw [if_neg hin]))
    go_quiet (first|(go_at_call 111;exact quiet_same (load_out bp bc zs at' 4 _ hlen hin)))
    go_wp2
    go_ret2
    exact ⟨by rw [HJ.out];rfl,by first|exact bel_drewN HB.out _|exact bel_drewN (bel_drewN HB.out _) _⟩
end Go.Proofs.YtachghaegokpdaaDoor
namespace Go.Proofs.YtachghaegokpdaaDoor
open Go.ChangeShapes Go.WideShapes Go.ChangeAt Go.RowKit
def IsMeter (w:World)(b:Nat)(left:Int)(out:Bool):Prop:=
 w.cell? ⟨b,0,none⟩=some (.int .i64 left)∧w.cell? ⟨b,1,none⟩=some (.bool out)∧w.frozen? ⟨b,0,none⟩=false∧w.frozen? ⟨b,1,none⟩=false
def atLeast0 (n:Int):Int:=if 0≤n then n else 0
theorem new_any (n:Int)(w:World) :
  Calls Tryd.prog 41 #[.int .i64 n] w fun e w'=>e=.returned (.pointer (some ⟨w.heap.size,0,none⟩))∧w'=w.alloc (.cells #[.int .i64 (atLeast0 n),.bool false] 140):=by
 by_cases h:0≤n
 · rw [show atLeast0 n=n from if_pos h]
   go_enter Tryd.func41,Tryd.ntmps41
   go_wp2
   go_ret
   exact ⟨rfl,rfl⟩
 · rw [show atLeast0 n=0 from if_neg h]
   go_enter Tryd.func41,Tryd.ntmps41
   go_wp2
   go_ret
   exact ⟨rfl,rfl⟩
theorem take_yes (b:Nat)(left n:Int)(w:World)(hm:IsMeter w b left false)(h0:0≤n)(h1:n≤left)(h2:left≤9223372036854775807) :
  Calls Tryd.prog 115 #[.pointer (some ⟨b,0,none⟩),.int .i64 n] w fun e w'=>e=.returned (.bool true)∧w'=w.setCell ⟨b,0,none⟩ (.int .i64 (left-n)):=by
 obtain ⟨c0,c1,f0,f1⟩:=hm
 go_enter Tryd.func115,Tryd.ntmps115
 go_wp2
 go_ret
 exact ⟨rfl,rfl⟩
theorem take_over (b:Nat)(left n:Int)(w:World)(hm:IsMeter w b left false)(h0:0≤n)(h1:left<n) :
  Calls Tryd.prog 115 #[.pointer (some ⟨b,0,none⟩),.int .i64 n] w fun e w'=>e=.returned (.bool false)∧w'=(w.setCell ⟨b,0,none⟩ (.int .i64 0)).setCell ⟨b,1,none⟩ (.bool true):=by
 obtain ⟨c0,c1,f0,f1⟩:=hm
 go_enter Tryd.func115,Tryd.ntmps115
 go_wp2
 go_ret
 exact ⟨rfl,rfl⟩
end Go.Proofs.YtachghaegokpdaaDoor
namespace Go.Proofs.YtachghaegokpdaaDoor
open Go.ChangeShapes Go.WideShapes Go.ChangeAt Go.RowKit
structure Exw (R S B:Nat)(w w':World):Prop where
 os:w'.os=w.os
 tape:w'.tape=w.tape
 output:w'.output=w.output
 size:w.heap.size≤w'.heap.size
 block:∀ k,k<B→k≠R→k≠S→w'.heap[k]?=w.heap[k]?
theorem Exw.refl (R S B:Nat)(w:World):Exw R S B w w:=⟨rfl,rfl,rfl,Nat.le_refl _,fun _ _ _ _=>rfl⟩
theorem Exw.trans {R S B:Nat}{a b c:World}(h:Exw R S B a b)(k:Exw R S B b c):Exw R S B a c:=
 ⟨k.os.trans h.os,k.tape.trans h.tape,k.output.trans h.output,Nat.le_trans h.size k.size,fun i hi h1 h2=>(k.block i hi h1 h2).trans (h.block i hi h1 h2)⟩
theorem Exw.mono {R S B B':Nat}{w w':World}(h:Exw R S B w w')(hB:B'≤B):Exw R S B' w w':=⟨h.os,h.tape,h.output,h.size,fun k hk h1 h2=>h.block k (Nat.lt_of_lt_of_le hk hB) h1 h2⟩
theorem Exw.of_below {R S B:Nat}{w w':World}(h:Below B w w'):Exw R S B w w':=⟨h.os,h.tape,h.output,h.size,fun k hk _ _=>h.block k hk⟩
theorem Exw.then {R S:Nat}{a b c:World}(h:Exw R S a.heap.size a b)(k:Exw R S b.heap.size b c):Exw R S a.heap.size a c:=h.trans (k.mono h.size)
theorem Exw.bel {R S:Nat}{a b c:World}(h:Exw R S a.heap.size a b)(k:Below b.heap.size b c):Exw R S a.heap.size a c:=h.then (.of_below k)
theorem Exw.after {R S:Nat}{a b c:World}(h:Below a.heap.size a b)(k:Exw R S b.heap.size b c):Exw R S a.heap.size a c:=(Exw.of_below h).then k
theorem Exw.setCell {R S B:Nat}{a w:World}(h:Exw R S B a w){p:Addr}(hp:p.block=R∨p.block=S∨B≤p.block)(u:Value):Exw R S B a (w.setCell p u):=
 ⟨h.os,h.tape,h.output,by rw [show (w.setCell p u).heap.size=w.heap.size by simp [World.setCell]];exact h.size,fun k hk h1 h2=>(Below.heap_setCell _ _ _ _ (by omega)).trans (h.block k hk h1 h2)⟩
theorem Exw.drew {R S B:Nat}{a w:World}(h:Exw R S B a w):Exw R S B a w.drew:=⟨h.os,h.tape,h.output,h.size,h.block⟩
theorem Exw.drewN {R S B:Nat}{a w:World}(h:Exw R S B a w)(n:Nat):Exw R S B a (w.drewN n):=h.trans ⟨rfl,rfl,rfl,Nat.le_refl _,fun _ _ _ _=>rfl⟩
theorem Exw.cell {R S B:Nat}{w w':World}(h:Exw R S B w w'){p:Addr}(hp:p.block<B)(h1:p.block≠R)(h2:p.block≠S):w'.cell? p=w.cell? p:=World.cell?_of_block (w:=w) (h.block p.block hp h1 h2)
theorem Exw.below {R S B:Nat}{w w':World}(h:Exw R S B w w')(hR:B≤R)(hS:B≤S):Below B w w':=⟨h.os,h.tape,h.output,h.size,fun k hk=>h.block k hk (by omega) (by omega)⟩
theorem cell_exw {R S:Nat}{w W:World}(h:Exw R S w.heap.size w W){p:Addr}{v:Value}(hp:w.cell? p=some v)(h1:p.block≠R)(h2:p.block≠S):W.cell? p=some v:=(h.cell (World.block_lt_of_cell? _ _ hp) h1 h2).trans hp
theorem blk_exw {R S B g:Nat}{w W:World}{o:Obj}(h:w.heap[g]?=some o)(hb:Exw R S B w W)(hg:g<B)(h1:g≠R)(h2:g≠S):W.heap[g]?=some o:=(hb.block g hg h1 h2).trans h
theorem Exw.ownsRow {R S:Nat}{w w':World}(h:Exw R S w.heap.size w w'){base:Nat}{e:TypeId}{size:Nat}{v:Value}{n:Nat}{xs:List Value}(ho:w.ownsRow base e size v n xs)(hR:v.ownBlock≠some R)(hS:v.ownBlock≠some S):w'.ownsRow base e size v n xs:=by
 obtain ⟨hl,h'⟩:=ho
 refine ⟨hl,?_⟩
 rcases h' with h1|⟨g,cap,cur,hv,hb,hg,hrest⟩
 · exact .inl h1
 · subst hv
   exact .inr ⟨g,cap,cur,rfl,hb,blk_exw hg h (blk_lt hg) (fun e=>hR (by rw [e];rfl)) (fun e=>hS (by rw [e];rfl)),hrest⟩
end Go.Proofs.YtachghaegokpdaaDoor
