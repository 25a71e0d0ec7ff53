/-
  A row of so many zeros that is made. Conditions: those that each theorem names.
-/
import Derived.Test.YtpbaaedijfofnaaDoorPkV1
import Derived.Test.YtpbaaedijfofnaaDoorPkV2
import Derived.Test.YtpbaaedijfofnaaDoorPkV3
import Derived.Test.YtpbaaedijfofnaaDoorPkV5
import Derived.WalkKit
import Derived.BigQuiet
import Derived.Laws.BytesArg
import Derived.Below
import Derived.Deep.Cut
import Derived.Laws.MakeOwn
namespace Go.Proofs.YtpbaaedijfofnaaDoor
open Go.RowKit
theorem bel_drewN {B:Nat}{a w:World}(h:Below B a w)(n:Nat):Below B a (w.drewN n):=h.trans ⟨rfl,rfl,rfl,Nat.le_refl _,fun _ _=>rfl⟩
theorem quiet_same {P:Program}{f:FuncId}{args:Array Value}{w:World}{n:Nat}{v:Value}
  (h:Calls P f args (w.drewN n) fun e w'=>e=.returned v∧w.drewN n=w'):Calls P f args (w.drewN n) fun e w''=>e=.returned v∧∃ m,w''=w.drewN m:=
 h.mono fun _ _ ⟨he,hm⟩=>⟨he,n,hm.symm⟩
theorem conv_zero {P:Program}(w:World)(src e dst:TypeId)(hs:P.underlying src=some (.slice e))(he:P.underlying e=some (.int .u8))(hd:P.underlying dst=some .string)(a:Option Addr)(c:Nat) :
  (convert src dst (.slice a 0 c)).run P w=.ok (.string (strOfNums [])) w:=by
 rw [run_convert_bytes_string w src dst e a 0 c hs he hd]
 cases a with
 | none=>simp [Conv.bytesToString];rfl
 | some x =>
  have hl:(loadCells x 0).run P w=.ok (([]:List Int).map (Value.int .u8)).toArray w:=run_loadCells_list (P:=P) w x [] (fun j v hj=>by simp at hj)
  rw [run_bytesToString w x 0 c [] hl]
  simp [strOfNums]
  rfl
end Go.Proofs.YtpbaaedijfofnaaDoor
namespace Go.Proofs.YtpbaaedijfofnaaDoor
open Go.ChangeShapes Go.WideShapes Go.ChangeAt Go.RowKit Go.Shelf
def inlC (k:Nat)(lists:Int):Int:=if numTB k lists=true then kSize k else 4
def mfldCells (f:CFld):List Value:=[.int .u8 f.kind,.int .i64 f.ref,.int .i64 f.lists,.int .i64 (inlC f.kind f.lists),.int .u64 f.dflt]
def mfldsCells (l:List CFld):List Value:=l.flatMap mfldCells
def mrowCell (q:List CFld × Value):List Value:=[q.2]
def mrowsCells (l:List (List CFld × Value)):List Value:=l.flatMap mrowCell
def cntCell (n:Nat):List Value:=[.int .i64 n]
def cntsCells (l:List Nat):List Value:=l.flatMap cntCell
structure IsMsg (base:Nat)(W:World)(m:Nat)(bp:Option Addr)(bc:Nat)(sv ev:Value)(zs:List Int)(fs:List (List CFld × Value))(ns:List Nat):Prop where
 blk:W.heap[m]?=some (.cells #[.slice bp zs.length bc,sv,ev] 171 (0,0))
 bytes:Bytes W bp zs
 len:zs.length≤16384
 cap:zs.length≤bc
 structs:W.ownsRow base 172 1 sv fs.length (mrowsCells fs)
 fields:∀ q ∈ fs,W.ownsRow base 175 5 q.2 q.1.length (mfldsCells q.1)
 enums:W.ownsRow base 3 1 ev ns.length (cntsCells ns)
theorem IsMsg.below {base:Nat}{W W':World}{m:Nat}{bp:Option Addr}{bc:Nat}{sv ev:Value}{zs:List Int}{fs:List (List CFld × Value)}{ns:List Nat}(h:IsMsg base W m bp bc sv ev zs fs ns)(hb:Below W.heap.size W W'):IsMsg base W' m bp bc sv ev zs fs ns:=
 ⟨blk_below h.blk hb (blk_lt h.blk),h.bytes.below (Nat.le_refl _) hb,h.len,h.cap,row_keep hb h.structs,fun q hq=>row_keep hb (h.fields q hq),row_keep hb h.enums⟩
def kidV (k:Nat)(ref lists at':Int)(d:Nat)(there:Bool):Value:=.agg #[.int .u8 k,.int .i64 ref,.int .i64 lists,.int .i64 at',.int .u64 d,.bool there]
def optV:Option Int→Value
 | none=>.tuple #[.int .i64 0,.bool false]
 | some x=>.tuple #[.int .i64 x,.bool true]
def tabV (t:TabZ)(at':Int):Value:=.agg #[.int .i64 at',.int .i64 t.own,.int .i64 t.la,.int .i64 t.size]
theorem blk6 {w:World}{g:Nat}{x y z u v s:Value}{t:TypeId}(h:w.heap[g]?=some (.cells #[x,y,z,u,v,s] t (0,0))) :
  g<w.heap.size∧w.cell? ⟨g,0,none⟩=some x∧w.cell? ⟨g,1,none⟩=some y∧w.cell? ⟨g,2,none⟩=some z∧w.cell? ⟨g,3,none⟩=some u∧w.cell? ⟨g,4,none⟩=some v∧w.cell? ⟨g,5,none⟩=some s:=
 ⟨blk_lt h,(blk_cell h 0).trans rfl,(blk_cell h 1).trans rfl,(blk_cell h 2).trans rfl,(blk_cell h 3).trans rfl,(blk_cell h 4).trans rfl,(blk_cell h 5).trans rfl⟩
theorem blk7 {w:World}{g:Nat}{x y z u v s r:Value}{t:TypeId}(h:w.heap[g]?=some (.cells #[x,y,z,u,v,s,r] t (0,0))) :
  g<w.heap.size∧w.cell? ⟨g,0,none⟩=some x∧w.cell? ⟨g,1,none⟩=some y∧w.cell? ⟨g,2,none⟩=some z∧w.cell? ⟨g,3,none⟩=some u∧w.cell? ⟨g,4,none⟩=some v∧w.cell? ⟨g,5,none⟩=some s∧w.cell? ⟨g,6,none⟩=some r:=
 ⟨blk_lt h,(blk_cell h 0).trans rfl,(blk_cell h 1).trans rfl,(blk_cell h 2).trans rfl,(blk_cell h 3).trans rfl,(blk_cell h 4).trans rfl,(blk_cell h 5).trans rfl,(blk_cell h 6).trans rfl⟩
theorem blk_set6 {w:World}{g:Nat}{x y z u v s:Value}{t:TypeId}(h:w.heap[g]?=some (.cells #[x,y,z,u,v,s] t (0,0)))(a b c d e f:Value) :
  ((((((w.setCell ⟨g,0,none⟩ a).setCell ⟨g,1,none⟩ b).setCell ⟨g,2,none⟩ c).setCell ⟨g,3,none⟩ d).setCell ⟨g,4,none⟩ e).setCell ⟨g,5,none⟩ f).heap[g]?=some (.cells #[a,b,c,d,e,f] t (0,0)):=
 by
 have h1:(w.setCell ⟨g,0,none⟩ a).heap[g]?=some (.cells #[a,y,z,u,v,s] t (0,0)):=(blk_set h 0 a).trans rfl
 have h2:=((blk_set h1 1 b).trans rfl:_=some (Obj.cells #[a,b,z,u,v,s] t (0,0)))
 have h3:=((blk_set h2 2 c).trans rfl:_=some (Obj.cells #[a,b,c,u,v,s] t (0,0)))
 have h4:=((blk_set h3 3 d).trans rfl:_=some (Obj.cells #[a,b,c,d,v,s] t (0,0)))
 have h5:=((blk_set h4 4 e).trans rfl:_=some (Obj.cells #[a,b,c,d,e,s] t (0,0)))
 exact (blk_set h5 5 f).trans rfl
theorem below_set6 {B:Nat}{a w:World}(h:Below B a w){g:Nat}(hg:B≤g)(x y z u v s:Value):Below B a ((((((w.setCell ⟨g,0,none⟩ x).setCell ⟨g,1,none⟩ y).setCell ⟨g,2,none⟩ z).setCell ⟨g,3,none⟩ u).setCell ⟨g,4,none⟩ v).setCell ⟨g,5,none⟩ s):=
 (((((h.setCell (p:=⟨g,0,none⟩) hg x).setCell (p:=⟨g,1,none⟩) hg y).setCell (p:=⟨g,2,none⟩) hg z).setCell (p:=⟨g,3,none⟩) hg u).setCell (p:=⟨g,4,none⟩) hg v).setCell (p:=⟨g,5,none⟩) hg s
theorem blk_set7 {w:World}{g:Nat}{x y z u v s r:Value}{t:TypeId}(h:w.heap[g]?=some (.cells #[x,y,z,u,v,s,r] t (0,0)))(a b c d e f i:Value) :
  (((((((w.setCell ⟨g,0,none⟩ a).setCell ⟨g,1,none⟩ b).setCell ⟨g,2,none⟩ c).setCell ⟨g,3,none⟩ d).setCell ⟨g,4,none⟩ e).setCell ⟨g,5,none⟩ f).setCell ⟨g,6,none⟩ i).heap[g]?=some (.cells #[a,b,c,d,e,f,i] t (0,0)):=
 by
 have h1:(w.setCell ⟨g,0,none⟩ a).heap[g]?=some (.cells #[a,y,z,u,v,s,r] t (0,0)):=(blk_set h 0 a).trans rfl
 have h2:=((blk_set h1 1 b).trans rfl:_=some (Obj.cells #[a,b,z,u,v,s,r] t (0,0)))
 have h3:=((blk_set h2 2 c).trans rfl:_=some (Obj.cells #[a,b,c,u,v,s,r] t (0,0)))
 have h4:=((blk_set h3 3 d).trans rfl:_=some (Obj.cells #[a,b,c,d,v,s,r] t (0,0)))
 have h5:=((blk_set h4 4 e).trans rfl:_=some (Obj.cells #[a,b,c,d,e,s,r] t (0,0)))
 have h6:=((blk_set h5 5 f).trans rfl:_=some (Obj.cells #[a,b,c,d,e,f,r] t (0,0)))
 exact (blk_set h6 6 i).trans rfl
theorem below_set7 {B:Nat}{a w:World}(h:Below B a w){g:Nat}(hg:B≤g)(x y z u v s r:Value):Below B a (((((((w.setCell ⟨g,0,none⟩ x).setCell ⟨g,1,none⟩ y).setCell ⟨g,2,none⟩ z).setCell ⟨g,3,none⟩ u).setCell ⟨g,4,none⟩ v).setCell ⟨g,5,none⟩ s).setCell ⟨g,6,none⟩ r):=
 ((((((h.setCell (p:=⟨g,0,none⟩) hg x).setCell (p:=⟨g,1,none⟩) hg y).setCell (p:=⟨g,2,none⟩) hg z).setCell (p:=⟨g,3,none⟩) hg u).setCell (p:=⟨g,4,none⟩) hg v).setCell (p:=⟨g,5,none⟩) hg s).setCell (p:=⟨g,6,none⟩) hg r
theorem load_in (p:Option Addr)(cap:Nat)(zs:List Int)(a n:Int)(w:World)(hz:Bytes w p zs)(hl:zs.length≤16384)(h:inZ (lenZ zs) a n=true)(hn:n=1∨n=2∨n=4∨n=8) :
  Calls Tryd.prog 133 #[.slice p zs.length cap,.int .i64 a,.int .i64 n] w fun e w'=>e=.returned (.tuple #[.int .u64 (leAt zs a.toNat n.toNat),.bool true])∧w=w':=by
 have h1:=inZ_iff.1 h
 unfold lenZ at h1
 have hne:zs≠[]:=fun e=>by subst e;simp at h1;omega
 obtain ⟨b,off,rfl,_,hc⟩:=hz.2 hne
 exact load_yes b off zs.length cap a n w zs (by omega) (Nat.le_refl _) hc hz.1 h1.1 (by omega) (by omega) hn
theorem load_out (p:Option Addr)(cap:Nat)(zs:List Int)(a n:Int)(w:World)(hl:zs.length≤16384)(h:¬inZ (lenZ zs) a n=true) :
  Calls Tryd.prog 133 #[.slice p zs.length cap,.int .i64 a,.int .i64 n] w fun e w'=>e=.returned (.tuple #[.int .u64 0,.bool false])∧w=w':=by
 refine load_no p zs.length cap a n w (by omega) ?_
 have h1:=inZ_no h
 unfold lenZ at h1
 rcases h1 with h1|h1|h1|h1
 · exact .inr (.inl h1)
 · exact .inl (by omega)
 · exact .inr (.inr (.inl h1))
 · exact .inr (.inr (.inr h1))
end Go.Proofs.YtpbaaedijfofnaaDoor
namespace Go.Proofs.YtpbaaedijfofnaaDoor
open Go.ChangeShapes Go.WideShapes Go.ChangeAt Go.RowKit Go.Shelf
theorem quiet_same2 {P:Program}{f:FuncId}{args:Array Value}{w:World}{k n:Nat}{v:Value}
  (h:Calls P f args (w.drewN (k+n)) fun e w'=>e=.returned v∧w.drewN (k+n)=w'):Calls P f args (w.drewN (k+n)) fun e w''=>e=.returned v∧∃ m,w''=w.drewN (k+m):=
 h.mono fun _ _ ⟨he,hm⟩=>⟨he,n,hm.symm⟩
set_option maxRecDepth 100000 in
set_option maxHeartbeats 4000000 in
theorem ftarget_any (w:World){base m:Nat}{bp:Option Addr}{bc:Nat}{sv ev:Value}{zs:List Int}{fs:List (List CFld × Value)}{ns:List Nat}(h:IsMsg base w m bp bc sv ev zs fs ns)(k:Nat)(ref lists at':Int)(d:Nat)(there:Bool) :
  Calls Tryd.prog 107 #[.pointer (some ⟨m,0,none⟩),kidV k ref lists at' d there] w fun e w'=>e=.returned (optV (if there=true then jumpZ zs at' else none))∧Below w.heap.size w w':=by
 have hb:=(Below.refl w.heap.size w).alloc (Nat.le_refl _) (.cells #[.int .u8 k,.int .i64 ref,.int .i64 lists,.int .i64 at',.int .u64 d,.bool there] 177)
 have HB:=Lib.hid hb
 have HM:=Lib.hid (h.below hb)
 obtain ⟨_,x0,x1,x2,x3,x4,x5⟩:=blk6 (heap_alloc_new w (.cells #[.int .u8 k,.int .i64 ref,.int .i64 lists,.int .i64 at',.int .u64 d,.bool there] 177))
 clear hb h
 unfold kidV
 cases there with
 | false =>
  go_enter Tryd.func107,Tryd.ntmps107
  go_wp2
  go_ret2
  exact ⟨rfl,HB.out⟩
 | true =>
  obtain ⟨_,m0,m1,m2,_⟩:=blk3 HM.out.blk
  rw [if_pos rfl]
  have HBY:=Lib.hid HM.out.bytes
  have hlen:=HM.out.len
  obtain ⟨jv,hjv⟩:∃ jv,jumpZ zs at'=jv:=⟨_,rfl⟩
  rw [hjv]
  have HJ0:=Lib.hid hjv
  clear hjv
  go_enter Tryd.func107,Tryd.ntmps107
  go_upto_region 3 with (fail)
  generalize w.alloc (.cells #[.int .u8 k,.int .i64 ref,.int .i64 lists,.int .i64 at',.int .u64 d,.bool true] 177)=W0 at *
  by_cases hin:inZ (lenZ zs) at' 4=true
  · have hld:=leAt_4 zs at'.toNat HBY.out.1
    have hat:=inZ_iff.1 hin
    have HL:Hid (∀ n,Calls Tryd.prog 133 #[.slice bp zs.length bc,.int .i64 at',.int .i64 4] (W0.drewN n) fun e w'=>e=.returned (.tuple #[.int .u64 (leAt zs at'.toNat 4),.bool true])∧W0.drewN n=w'):=Lib.hid (fun n=>load_in bp bc zs at' 4 _ (HBY.out.below (Nat.le_refl _) (bel_drewN (Below.refl _ _) n)) hlen hin (by decide))
    have hz:lenZ zs=(zs.length:Int):=rfl
    rw [hz] at *
    have hj:jumpZ zs at'=if at'+leAt zs at'.toNat 4≤(zs.length:Int) then some (at'+leAt zs at'.toNat 4) else none:=by
     unfold jumpZ
     rw [if_pos hin]
     rfl
    have HJ:=Lib.hid (HJ0.out.symm.trans hj)
    clear hj hin HJ0
    generalize leAt zs at'.toNat 4=z at *
    have hcv:=IntWalk.i64_in z ⟨by omega,by omega⟩
    go_quiet (first|(go_at_call 133;exact quiet_same (HL.out _)))
    go_wp2_with fail
    by_cases hle:at'+z≤(zs.length:Int)
    · have HJ2:Hid (jv=some (at'+z)):=Lib.hid (HJ.out.trans (if_pos hle))
      have HN:=Lib.hid (fun W=>next_yes at' z zs.length W (by omega) (by omega) (by omega) (by omega) (by omega))
      go_quiet (first|(go_at_call 93;exact quiet_same2 (HN.out _)))
      go_wp2
      go_ret2
      exact ⟨by rw [HJ2.out];rfl,by first|exact bel_drewN HB.out _|exact bel_drewN (bel_drewN HB.out _) _⟩
    · have HJ2:Hid (jv=none):=Lib.hid (HJ.out.trans (if_neg hle))
      have HN:=Lib.hid (fun W=>next_no at' z zs.length W (by omega) (by omega))
      go_quiet (first|(go_at_call 93;exact quiet_same2 (HN.out _)))
      go_wp2
      go_ret2
      exact ⟨by rw [HJ2.out];rfl,by first|exact bel_drewN HB.out _|exact bel_drewN (bel_drewN HB.out _) _⟩
  · have HJ:Hid (jv=none):=Lib.hid (HJ0.out.symm.trans (by unfold jumpZ;rw [if_neg hin]))
    go_quiet (first|(go_at_call 133;exact quiet_same (load_out bp bc zs at' 4 _ hlen hin)))
    go_wp2
    go_ret2
    exact ⟨by rw [HJ.out];rfl,by first|exact bel_drewN HB.out _|exact bel_drewN (bel_drewN HB.out _) _⟩
end Go.Proofs.YtpbaaedijfofnaaDoor
namespace Go.Proofs.YtpbaaedijfofnaaDoor
open Go.ChangeShapes Go.WideShapes Go.ChangeAt Go.RowKit Go.Shelf
set_option maxHeartbeats 4000000 in
theorem fsized_any (a b c d:Int)(w:World)(hd:0≤d) :
  Calls Tryd.prog 134 #[.agg #[.int .i64 a,.int .i64 b,.int .i64 c,.int .i64 d]] w fun e w'=>e=.returned (.bool (decide (4≤b∧4≤d∧d % 2=0)))∧Below w.heap.size w w':=by
 have HB:=Lib.hid ((Below.refl w.heap.size w).alloc (Nat.le_refl _) (.cells #[.int .i64 a,.int .i64 b,.int .i64 c,.int .i64 d] 128))
 obtain ⟨_,x0,x1,x2,x3⟩:=blk4p (heap_alloc_new w (.cells #[.int .i64 a,.int .i64 b,.int .i64 c,.int .i64 d] 128))
 have e2:d.tmod 2=d % 2:=Int.tmod_eq_emod_of_nonneg hd
 have h2:d % 2=0∨d % 2=1:=by omega
 obtain ⟨r,hr⟩:∃ r,decide (4≤b∧4≤d∧d % 2=0)=r:=⟨_,rfl⟩
 rw [hr]
 have HR:=Lib.hid hr.symm
 clear hr
 by_cases h0:4≤b
 · by_cases h1:4≤d
   · rcases h2 with h2|h2
     · have HV:Hid (r=true):=Lib.hid (HR.out.trans (decide_eq_true ⟨h0,h1,h2⟩))
       rw [h2] at e2
       clear h2
       go_enter Tryd.func134,Tryd.ntmps134
       go_wp2
       go_ret
       exact ⟨ret_bool HV.out.symm,HB.out⟩
     · have HV:Hid (r=false):=Lib.hid (HR.out.trans (decide_eq_false (by omega)))
       rw [h2] at e2
       clear h2
       go_enter Tryd.func134,Tryd.ntmps134
       go_wp2
       go_ret
       exact ⟨ret_bool HV.out.symm,HB.out⟩
   · have HV:Hid (r=false):=Lib.hid (HR.out.trans (decide_eq_false (by omega)))
     clear h2 e2
     go_enter Tryd.func134,Tryd.ntmps134
     go_wp2
     go_ret
     exact ⟨ret_bool HV.out.symm,HB.out⟩
 · have HV:Hid (r=false):=Lib.hid (HR.out.trans (decide_eq_false (by omega)))
   clear h2 e2
   go_enter Tryd.func134,Tryd.ntmps134
   go_wp2
   go_ret
   exact ⟨ret_bool HV.out.symm,HB.out⟩
set_option maxHeartbeats 4000000 in
theorem fholds_any (t:TabZ)(p at' size:Int)(w:World)(ha : -1000000000000≤at'∧at'≤1000000000000)(hs:0≤size∧size≤8) :
  Calls Tryd.prog 113 #[tabV t p,.int .i64 at',.int .i64 size] w fun e w'=>e=.returned (.bool (decide (4≤at'∧at'+size≤t.own)))∧Below w.heap.size w w':=by
 have HB:=Lib.hid ((Below.refl w.heap.size w).alloc (Nat.le_refl _) (.cells #[.int .i64 p,.int .i64 t.own,.int .i64 t.la,.int .i64 t.size] 128))
 obtain ⟨_,x0,x1,x2,x3⟩:=blk4p (heap_alloc_new w (.cells #[.int .i64 p,.int .i64 t.own,.int .i64 t.la,.int .i64 t.size] 128))
 have hw:=IntWalk.i64_in (at'+size) (by omega)
 obtain ⟨r,hr⟩:∃ r,decide (4≤at'∧at'+size≤t.own)=r:=⟨_,rfl⟩
 rw [hr]
 have HR:=Lib.hid hr.symm
 clear hr
 unfold tabV
 generalize t.own=b at *
 by_cases h0:4≤at'
 · by_cases h1:at'+size≤b
   · have HV:Hid (r=true):=Lib.hid (HR.out.trans (decide_eq_true ⟨h0,h1⟩))
     go_enter Tryd.func113,Tryd.ntmps113
     go_wp2
     go_ret
     exact ⟨ret_bool HV.out.symm,HB.out⟩
   · have HV:Hid (r=false):=Lib.hid (HR.out.trans (decide_eq_false (by omega)))
     go_enter Tryd.func113,Tryd.ntmps113
     go_wp2
     go_ret
     exact ⟨ret_bool HV.out.symm,HB.out⟩
 · have HV:Hid (r=false):=Lib.hid (HR.out.trans (decide_eq_false (by omega)))
   go_enter Tryd.func113,Tryd.ntmps113
   go_wp2
   go_ret
   exact ⟨ret_bool HV.out.symm,HB.out⟩
set_option maxRecDepth 100000 in
set_option maxHeartbeats 4000000 in
theorem ffield_any (w:World){base m:Nat}{bp:Option Addr}{bc:Nat}{sv ev:Value}{zs:List Int}{fs:List (List CFld × Value)}{ns:List Nat}(h:IsMsg base w m bp bc sv ev zs fs ns)(t:TabZ)(p:Int)(j:Nat)(hj:j≤1000000)
  (ht:inZ (lenZ zs) t.la t.size=true∧t.size % 2=0) :
  Calls Tryd.prog 137 #[.pointer (some ⟨m,0,none⟩),tabV t p,.int .i64 j] w fun e w'=>e=.returned (.int .i64 (offZ zs t j))∧Below w.heap.size w w':=by
 have hb:=(Below.refl w.heap.size w).alloc (Nat.le_refl _) (.cells #[.int .i64 p,.int .i64 t.own,.int .i64 t.la,.int .i64 t.size] 128)
 have HB:=Lib.hid hb
 have HM:=Lib.hid (h.below hb)
 obtain ⟨_,x0,x1,x2,x3⟩:=blk4p (heap_alloc_new w (.cells #[.int .i64 p,.int .i64 t.own,.int .i64 t.la,.int .i64 t.size] 128))
 obtain ⟨_,m0,m1,m2,_⟩:=blk3 HM.out.blk
 have HBY:=Lib.hid HM.out.bytes
 have hlen:=HM.out.len
 have htt:=inZ_iff.1 ht.1
 have hz:lenZ zs=(zs.length:Int):=rfl
 rw [hz] at htt
 have hw1:=IntWalk.i64_in (2 * (j:Int)) (by omega)
 have hw2:=IntWalk.i64_in (4+2 * (j:Int)) (by omega)
 have HEV:=Lib.hid ht.2
 obtain ⟨r,hr⟩:∃ r,offZ zs t j=r:=⟨_,rfl⟩
 rw [hr]
 have HR:=Lib.hid hr.symm
 have hb0:=hb
 clear hr hb h ht
 unfold tabV
 by_cases h0:4+2 * (j:Int)<t.size
 · have hin:inZ (lenZ zs) (t.la+(4+2 * (j:Int))) 2=true:=inZ_iff.2 (by have:=HEV.out;rw [hz];omega)
   have HL:Hid (∀ W,Below (w.alloc (.cells #[.int .i64 p,.int .i64 t.own,.int .i64 t.la,.int .i64 t.size] 128)).heap.size (w.alloc (.cells #[.int .i64 p,.int .i64 t.own,.int .i64 t.la,.int .i64 t.size] 128)) W→Calls Tryd.prog 133 #[.slice bp zs.length bc,.int .i64 (t.la+(4+2 * (j:Int))),.int .i64 2] W fun e w'=>e=.returned (.tuple #[.int .u64 (leAt zs (t.la+(4+2 * (j:Int))).toNat 2),.bool true])∧W=w'):=
    Lib.hid (fun W hb=>load_in bp bc zs (t.la+(4+2 * (j:Int))) 2 W (HBY.out.below (Nat.le_refl _) hb) hlen hin (by decide))
   have HV:Hid (r=leAt zs (t.la+(4+2 * (j:Int))).toNat 2):=Lib.hid (HR.out.trans (by
    unfold offZ
    rw [if_pos h0,show t.la.toNat+4+2 * j=(t.la+(4+2 * (j:Int))).toNat by omega]))
   have hld:=leAt_2 zs (t.la+(4+2 * (j:Int))).toNat HBY.out.1
   have hw3:=IntWalk.i64_in (t.la+(4+2 * (j:Int))) (by omega)
   generalize leAt zs (t.la+(4+2 * (j:Int))).toNat 2=z at *
   have hcv:=IntWalk.i64_in z ⟨by omega,by omega⟩
   have h0':¬t.size≤4+2 * (j:Int):=by omega
   clear hin hb0
   generalize t.la=la at *
   generalize t.size=sz at *
   generalize t.own=ow at *
   go_enter Tryd.func137,Tryd.ntmps137
   go_upto_region 4 with (fail)
   generalize w.alloc (.cells #[.int .i64 p,.int .i64 ow,.int .i64 la,.int .i64 sz] 128)=W0 at *
   go_quiet (first|(go_at_call 133;exact quiet_same (HL.out _ (bel_drewN (Below.refl _ _) _))))
   go_wp2
   go_ret
   exact ⟨ret_int HV.out.symm,bel_drewN HB.out _⟩
 · have HV:Hid (r=0):=Lib.hid (HR.out.trans (by unfold offZ;rw [if_neg h0]))
   generalize t.la=la at *
   generalize t.size=sz at *
   generalize t.own=ow at *
   go_enter Tryd.func137,Tryd.ntmps137
   go_wp2
   go_ret
   exact ⟨ret_int HV.out.symm,HB.out⟩
end Go.Proofs.YtpbaaedijfofnaaDoor
namespace Go.Proofs.YtpbaaedijfofnaaDoor
open Go.ChangeShapes Go.WideShapes Go.ChangeAt Go.RowKit Go.Shelf
inductive PV where
 | mk (num:Nat) (bytes:List Int) (kids:List PV) (has:Bool)
def PV.num:PV→Nat|.mk n _ _ _=>n
def PV.bytes:PV→List Int|.mk _ b _ _=>b
def PV.kids:PV→List PV|.mk _ _ k _=>k
def PV.has:PV→Bool|.mk _ _ _ h=>h
inductive IsV (w:World):PV→Value→Prop
 | mk (n:Nat) (bs:List Int) (ks:List PV) (h:Bool) (ba ka:Option Addr) (bc kc kb ko:Nat) (c0 c1 c2 c3:Nat→Value) (hn:n≤18446744073709551615) (hb:Bytes w ba bs) (hbl:bs.length≤bc) (hbm:(bs.length:Int)≤9223372036854775807)
   (hkl:ks.length≤kc) (hkm:(ks.length:Int)≤9223372036854775807) (hka:ks.length≠0→ka=some ⟨kb,ko,none⟩)
   (hc:∀ i,i<ks.length→w.cell? ⟨kb,ko+i * 4,none⟩=some (c0 i)∧w.cell? ⟨kb,ko+i * 4+1,none⟩=some (c1 i)∧w.cell? ⟨kb,ko+i * 4+2,none⟩=some (c2 i)∧w.cell? ⟨kb,ko+i * 4+3,none⟩=some (c3 i))
   (hk:∀ i (hi:i<ks.length),IsV w (ks[i]'hi) (.agg #[c0 i,c1 i,c2 i,c3 i])) :
   IsV w (.mk n bs ks h) (.agg #[.int .u64 n,.slice ba bs.length bc,.slice ka ks.length kc,.bool h])
theorem cell_stays {w W:World}(h:Below w.heap.size w W){p:Addr}{v:Value}(hp:w.cell? p=some v):W.cell? p=some v:=(h.cell (World.block_lt_of_cell? _ _ hp)).trans hp
theorem IsV.later {w W:World}{v:PV}{val:Value}(h:IsV w v val)(hb:Below w.heap.size w W):IsV W v val:=by
 induction h with
 | mk n bs ks h ba ka bc kc kb ko c0 c1 c2 c3 hn hbb hbl hbm hkl hkm hka hc _ ih =>
  exact .mk n bs ks h ba ka bc kc kb ko c0 c1 c2 c3 hn (hbb.below (Nat.le_refl _) hb) hbl hbm hkl hkm hka (fun i hi=>by obtain ⟨h0,h1,h2,h3⟩:=hc i hi;exact ⟨cell_stays hb h0,cell_stays hb h1,cell_stays hb h2,cell_stays hb h3⟩) ih
theorem IsV.form {w:World}{v:PV}{val:Value}(h:IsV w v val):∃ (ba ka:Option Addr) (bc kc:Nat),val=.agg #[.int .u64 v.num,.slice ba v.bytes.length bc,.slice ka v.kids.length kc,.bool v.has]∧v.num≤18446744073709551615∧Bytes w ba v.bytes∧v.bytes.length≤bc∧(v.bytes.length:Int)≤9223372036854775807∧v.kids.length≤kc∧(v.kids.length:Int)≤9223372036854775807 ∧
  ∀ i (hi:i<v.kids.length),∃ (kb ko:Nat) (u0 u1 u2 u3:Value),ka=some ⟨kb,ko,none⟩∧w.cell? ⟨kb,ko+i * 4,none⟩=some u0∧w.cell? ⟨kb,ko+i * 4+1,none⟩=some u1∧w.cell? ⟨kb,ko+i * 4+2,none⟩=some u2∧w.cell? ⟨kb,ko+i * 4+3,none⟩=some u3∧IsV w (v.kids[i]'hi) (.agg #[u0,u1,u2,u3]):=by
 cases h with
 | mk n bs ks h ba ka bc kc kb ko c0 c1 c2 c3 hn hbb hbl hbm hkl hkm hka hc hk =>
  refine ⟨ba,ka,bc,kc,rfl,hn,hbb,hbl,hbm,hkl,hkm,fun i hi=>?_⟩
  obtain ⟨h0,h1,h2,h3⟩:=hc i hi
  exact ⟨kb,ko,_,_,_,_,hka (Nat.ne_of_gt (Nat.lt_of_le_of_lt (Nat.zero_le _) hi)),h0,h1,h2,h3,hk i hi⟩
def nilV:PV:=.mk 0 [] [] false
theorem bytes_nil (w:World):Bytes w none []:=⟨fun i=>by simp,fun h=>absurd rfl h⟩
theorem isV_nil (w:World):IsV w nilV (.agg #[.int .u64 0,.slice none 0 0,.slice none 0 0,.bool false]):=
 .mk 0 [] [] false none none 0 0 0 0 (fun _=>.bool false) (fun _=>.bool false) (fun _=>.bool false) (fun _=>.bool false) (by decide) (bytes_nil w) (Nat.le_refl _) (by decide) (Nat.le_refl _) (by decide) (fun h=>absurd rfl h) (fun i hi=>absurd hi (Nat.not_lt_zero i)) (fun i hi=>absurd hi (Nat.not_lt_zero i))
end Go.Proofs.YtpbaaedijfofnaaDoor
namespace Go.Proofs.YtpbaaedijfofnaaDoor
open Go.ChangeShapes Go.WideShapes Go.ChangeAt Go.RowKit Go.Shelf
theorem blk_set4 {w:World}{g:Nat}{x y z u:Value}{t:TypeId}(h:w.heap[g]?=some (.cells #[x,y,z,u] t (0,0)))(x' y' z' u':Value) :
  ((((w.setCell ⟨g,0,none⟩ x').setCell ⟨g,1,none⟩ y').setCell ⟨g,2,none⟩ z').setCell ⟨g,3,none⟩ u').heap[g]?=some (.cells #[x',y',z',u'] t (0,0)):=
 (blk_set (blk_set (blk_set (blk_set h 0 x') 1 y') 2 z') 3 u').trans rfl
theorem below_set4 {B:Nat}{a w:World}(h:Below B a w){g:Nat}(hg:B≤g)(x y z u:Value):Below B a ((((w.setCell ⟨g,0,none⟩ x).setCell ⟨g,1,none⟩ y).setCell ⟨g,2,none⟩ z).setCell ⟨g,3,none⟩ u):=
 (((h.setCell (p:=⟨g,0,none⟩) hg x).setCell (p:=⟨g,1,none⟩) hg y).setCell (p:=⟨g,2,none⟩) hg z).setCell (p:=⟨g,3,none⟩) hg u
end Go.Proofs.YtpbaaedijfofnaaDoor
namespace Go.Proofs.YtpbaaedijfofnaaDoor
open Go.ChangeShapes Go.WideShapes Go.ChangeAt Go.RowKit Go.Shelf
def hideW (S:Nat→Bool)(w:World):World:={ w with heap:=w.heap.mapIdx fun i o=>if S i=true then .cells #[] 36 (0,0) else o }
theorem hide_size (S:Nat→Bool)(w:World):(hideW S w).heap.size=w.heap.size:=by simp [hideW]
theorem hide_block (S:Nat→Bool)(w:World)(k:Nat)(h:S k=false):(hideW S w).heap[k]?=w.heap[k]?:=by
 simp [hideW,Array.getElem?_mapIdx,h]
theorem hide_cell (S:Nat→Bool)(w:World)(p:Addr)(h:S p.block=false):(hideW S w).cell? p=w.cell? p:=World.cell?_of_block (hide_block S w _ h)
theorem hide_none (S:Nat→Bool)(w:World)(p:Addr)(h:S p.block=true):(hideW S w).cell? p=none:=by
 unfold World.cell? hideW
 simp only [Array.getElem?_mapIdx]
 cases w.heap[p.block]? with
 | none=>rfl
 | some o=>simp [h]
theorem hide_some {S:Nat→Bool}{w:World}{p:Addr}{x:Value}(h:(hideW S w).cell? p=some x):S p.block=false∧w.cell? p=some x:=by
 cases hs:S p.block with
 | false=>exact ⟨rfl,(hide_cell S w p hs)▸h⟩
 | true=>rw [hide_none S w p hs] at h;cases h
theorem Bytes.mono {w W:World}{p:Option Addr}{zs:List Int}(hs:w.heap.size≤W.heap.size)(hc:∀ p x,w.cell? p=some x→W.cell? p=some x)(h:Bytes w p zs):Bytes W p zs:=by
 refine ⟨h.1,fun hne=>?_⟩
 obtain ⟨b,off,rfl,hlt,hcell⟩:=h.2 hne
 exact ⟨b,off,rfl,Nat.lt_of_lt_of_le hlt hs,fun i hi=>hc _ _ (hcell i hi)⟩
theorem IsV.mono {w W:World}{v:PV}{val:Value}(h:IsV w v val)(hs:w.heap.size≤W.heap.size)(hc:∀ p x,w.cell? p=some x→W.cell? p=some x):IsV W v val:=by
 induction h with
 | mk n bs ks h ba ka bc kc kb ko c0 c1 c2 c3 hn hbb hbl hbm hkl hkm hka hcc _ ih =>
  exact .mk n bs ks h ba ka bc kc kb ko c0 c1 c2 c3 hn (hbb.mono hs hc) hbl hbm hkl hkm hka (fun i hi=>by obtain ⟨h0,h1,h2,h3⟩:=hcc i hi;exact ⟨hc _ _ h0,hc _ _ h1,hc _ _ h2,hc _ _ h3⟩) ih
def VH (S:Nat→Bool)(w:World)(v:PV)(val:Value):Prop:=IsV (hideW S w) v val
theorem VH.out {S:Nat→Bool}{w:World}{v:PV}{val:Value}(h:VH S w v val):IsV w v val:=
 IsV.mono h (by rw [hide_size];exact Nat.le_refl _) (fun _ _ h=>(hide_some h).2)
theorem VH.step {S S':Nat→Bool}{w W:World}{v:PV}{val:Value}(h:VH S w v val)(hs:w.heap.size≤W.heap.size)(hb:∀ k,k<w.heap.size→S k=false→S' k=false∧W.heap[k]?=w.heap[k]?):VH S' W v val:=
 IsV.mono h (by rw [hide_size,hide_size];exact hs) (fun p x hx=>by
  obtain ⟨h1,h2⟩:=hide_some hx
  obtain ⟨h3,h4⟩:=hb p.block (World.block_lt_of_cell? _ _ h2) h1
  rw [hide_cell S' W p h3,World.cell?_of_block h4]
  exact h2)
theorem VH.alloc {S:Nat→Bool}{w:World}{v:PV}{val:Value}(h:VH S w v val)(o:Obj):VH S (w.alloc o) v val:=
 h.step (by simp) (fun k hk hs=>⟨hs,by rw [World.alloc];simp [Array.getElem?_push,Nat.ne_of_lt hk]⟩)
theorem VH.below {S:Nat→Bool}{w W:World}{v:PV}{val:Value}(h:VH S w v val)(hb:Below w.heap.size w W):VH S W v val:=h.step hb.size (fun k hk hs=>⟨hs,hb.block k hk⟩)
theorem VH.exc {S:Nat→Bool}{w W:World}{v:PV}{val:Value}{R:Nat}(h:VH S w v val)(hb:Exc R w.heap.size w W)(hR:S R=true):VH S W v val:=
 h.step hb.size (fun k hk hs=>⟨hs,hb.block k hk (fun e=>by subst e;rw [hR] at hs;cases hs)⟩)
theorem vh_nil (S:Nat→Bool)(w:World):VH S w nilV (.agg #[.int .u64 0,.slice none 0 0,.slice none 0 0,.bool false]):=isV_nil _
end Go.Proofs.YtpbaaedijfofnaaDoor
namespace Go.Proofs.YtpbaaedijfofnaaDoor
open Go.ChangeShapes Go.WideShapes Go.ChangeAt Go.RowKit Go.Shelf
def sortP (k:Nat)(lists:Int):Nat:=if 0<lists then 3 else if lists<0 then 0 else if 0<kSize k then 1 else if k=11∨k=12 then 2 else if k=13 then 4 else 0
def bareP (o:Nat)(v:PV):Bool:=
 (decide (o=1)||decide (v.num=0))&&((decide (o=2)||decide (v.bytes.length=0))&&(((decide (o=3)||v.has)||decide (v.kids.length=0))&&(decide (o=4) || !v.has)))
def fieldsP (f:Nat→Int→Int→PV→Bool):List CFld→List PV→Bool
 | [],_=>true
 | _::_,[]=>false
 | x::xs,v::vs=>f x.kind x.ref x.lists v&&fieldsP f xs vs
def fitsV1 (ss:List CRec)(es:List SCho)(next:Option (Nat→Int→Int→PV→Bool))(k:Nat)(ref lists:Int)(v:PV):Bool:=
 bareP (sortP k lists) v &&
  (if sortP k lists=1 then fitsT es k ref lists v.num
   else if sortP k lists=2 then decide (k=12)||decide (u8At v.bytes 0<0)
   else if sortP k lists=3 then (match next with
    | none=>decide (v.kids.length=0)
    | some f=>v.kids.all fun q => !(decide (sortP k (lists-1)=4) && !q.has)&&f k ref (lists-1) q)
   else if sortP k lists=4 then !v.has||(match next with
    | none=>false
    | some f=>decide (0≤ref∧ref<ss.length)&&(decide (v.kids.length=(ss.getD ref.toNat ⟨⟨#[]⟩,[]⟩).fields.length)&&fieldsP f (ss.getD ref.toNat ⟨⟨#[]⟩,[]⟩).fields v.kids))
   else false)
def fitsP (ss:List CRec)(es:List SCho):Nat→Nat→Int→Int→PV→Bool
 | 0=>fitsV1 ss es none
 | r+1=>fitsV1 ss es (some (fitsP ss es r))
end Go.Proofs.YtpbaaedijfofnaaDoor
namespace Go.Proofs.YtpbaaedijfofnaaDoor
open Go.ChangeShapes Go.WideShapes Go.ChangeAt Go.RowKit Go.Shelf
def i64Cell (z:Int):List Value:=[.int .i64 z]
def i64Cells (l:List Int):List Value:=l.flatMap i64Cell
theorem i64Cells_map (l:List Int):i64Cells l=l.map (Value.int .i64):=by
 induction l with
 | nil=>rfl
 | cons a r ih=>rw [List.map_cons,←ih];rfl
theorem i64Cells_length (l:List Int):(i64Cells l).length=l.length:=by rw [i64Cells_map,List.length_map]
end Go.Proofs.YtpbaaedijfofnaaDoor
namespace Go.Proofs.YtpbaaedijfofnaaDoor
open Go.ChangeShapes Go.WideShapes Go.ChangeAt Go.RowKit Go.Shelf
def noSF:SFld:=⟨⟨#[]⟩,0,0,0,0⟩
theorem i64_set (l:List Int)(k:Nat)(z:Int):(i64Cells l).toArray.setIfInBounds k (.int .i64 z)=(i64Cells (l.set k z)).toArray:=by
 rw [i64Cells_map,i64Cells_map,List.map_set]
 simp
theorem i64_zeros (n:Nat):(i64Cells (List.replicate n 0))=List.replicate n (.int .i64 0):=by rw [i64Cells_map];simp
end Go.Proofs.YtpbaaedijfofnaaDoor
namespace Go.Proofs.YtpbaaedijfofnaaDoor
open Go.ChangeShapes Go.WideShapes Go.ChangeAt Go.RowKit Go.Shelf
theorem int_info:(Tryd.prog.info? 3).map (fun i=>(i.zero,i.size,i.bytes))=some (some (.int .i64 0),1,8):=by kernel_rfl
theorem made_zerosI (n:Nat):madeCells (Value.int .i64 0).cells (n * 1)=(i64Cells (List.replicate n 0)).toArray:=by
 rw [i64_zeros]
 apply Array.ext'
 apply List.ext_getElem?
 intro k
 simp only [madeCells,Array.toList_map,Array.toList_range,Nat.mul_one,List.getElem?_map,List.getElem?_replicate]
 by_cases hk:k<n
 · rw [List.getElem?_range hk,if_pos hk,Option.map_some]
   show some (#[Value.int .i64 0][k % 1]!)=_
   rw [Nat.mod_one]
   rfl
 · rw [List.getElem?_eq_none (by simp;omega),if_neg hk]
   rfl
theorem make_ints (n:Nat)(hn:n≤1000000)(W:World):(Instr.makeSlice 48 (.int .i64 (n:Int)) (.int .i64 (n:Int))).run Tryd.prog W=.ok (.slice (some ⟨W.heap.size,0,none⟩) n n) (W.alloc (.cells (i64Cells (List.replicate n 0)).toArray 3)):=by
 obtain ⟨i,hi,hz,hs,hb⟩:=info_parts int_info
 have h:=run_make W 48 3 i (.int .i64 0) Tryd.underlying48 hi hz .i64 .i64 n n (by omega) (Int.le_refl _) (by rw [hb];omega) (by omega)
 rw [hs,Int.toNat_natCast,made_zerosI] at h
 exact h
end Go.Proofs.YtpbaaedijfofnaaDoor
