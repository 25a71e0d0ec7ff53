/-
  Package flatread: the walk's own memory; so many bytes are reached, so many steps are paid. Conditions: those that each theorem names.
-/
import Derived.Test.YtcfjjocmiheiaaaDoorPkD2
import Derived.Test.YtcfjjocmiheiaaaDoorPkD3
import Derived.Test.YtcfjjocmiheiaaaDoorPkD4
import Derived.Test.YtcfjjocmiheiaaaDoorPkD5
namespace Go.Proofs.YtcfjjocmiheiaaaDoor
open Go.ChangeShapes Go.WideShapes Go.ChangeAt Go.RowKit
theorem wsigned_any (n s:Int)(w:World) :
  Calls Tryd.prog 112 #[.int .u64 n,.int .i64 s] w fun e w'=>e=.returned (.int .u64 (sgnOf n s))∧w=w':=by
 by_cases e1:s=1
 · subst e1
   have E:IntKind.u64.wrap (IntKind.i8.wrap n)=sgnOf n 1:=by
    rw [sgnOf_1]
    split<;>(simp only [IntKind.wrap,IntKind.bits,IntKind.signed];simp;omega)
   have H:=Lib.hid E
   clear E
   go_enter Tryd.func112,Tryd.ntmps112
   go_wp2
   go_ret
   exact ⟨ret_int H.out,rfl⟩
 by_cases e2:s=2
 · subst e2
   have E:IntKind.u64.wrap (IntKind.i16.wrap n)=sgnOf n 2:=by
    rw [sgnOf_2]
    split<;>(simp only [IntKind.wrap,IntKind.bits,IntKind.signed];simp;omega)
   have H:=Lib.hid E
   clear E
   go_enter Tryd.func112,Tryd.ntmps112
   go_wp2
   go_ret
   exact ⟨ret_int H.out,rfl⟩
 by_cases e4:s=4
 · subst e4
   have E:IntKind.u64.wrap (wrap32 n)=sgnOf n 4:=by
    rw [sgnOf_4,←IntWalk.i32_left]
    split<;>(simp only [IntKind.wrap,IntKind.bits,IntKind.signed];simp;omega)
   have H:=Lib.hid E
   clear E
   go_enter Tryd.func112,Tryd.ntmps112
   go_wp2
   go_ret
   exact ⟨ret_int H.out,rfl⟩
 have H:=Lib.hid (sgnOf_else n s e1 e2 e4)
 have hs1:(s==1)=false:=by simp;omega
 have hs2:(s==2)=false:=by simp;omega
 have hs4:(s==4)=false:=by simp;omega
 clear e1 e2 e4
 rw [H.out]
 go_enter Tryd.func112,Tryd.ntmps112
 go_wp2
 go_ret
 exact ⟨rfl,rfl⟩
end Go.Proofs.YtcfjjocmiheiaaaDoor
namespace Go.Proofs.YtcfjjocmiheiaaaDoor
open Go.ChangeShapes Go.WideShapes Go.ChangeAt Go.RowKit
theorem rwithin_yes (l a n:Int)(w:World)(hl:l≤9223372036854775807)(h0:0≤a)(h1:0≤n)(h3:n≤l-a) :
  Calls Tryd.prog 131 #[.int .i64 l,.int .i64 a,.int .i64 n] w fun e w'=>e=.returned (.bool true)∧w=w':=by
 have t1:n≤l:=by omega
 have t2:a≤l-n:=by omega
 go_enter Tryd.func131,Tryd.ntmps131
 go_wp2
 go_ret
 exact ⟨rfl,rfl⟩
theorem rwithin_no (l a n:Int)(w:World)(hl0:0≤l)(hl:l≤9223372036854775807)(h:a<0∨n<0∨l<a∨l-a<n) :
  Calls Tryd.prog 131 #[.int .i64 l,.int .i64 a,.int .i64 n] w fun e w'=>e=.returned (.bool false)∧w=w':=by
 by_cases h0:a<0
 · clear h
   go_enter Tryd.func131,Tryd.ntmps131
   go_wp2
   go_ret
   exact ⟨rfl,rfl⟩
 by_cases h1:n<0
 · clear h
   go_enter Tryd.func131,Tryd.ntmps131
   go_wp2
   go_ret
   exact ⟨rfl,rfl⟩
 by_cases h2:l<n
 · clear h
   go_enter Tryd.func131,Tryd.ntmps131
   go_wp2
   go_ret
   exact ⟨rfl,rfl⟩
 have h3:decide (a≤l-n)=false:=by simp;omega
 clear h
 go_enter Tryd.func131,Tryd.ntmps131
 go_wp2
 go_ret
 exact ⟨rfl,rfl⟩
end Go.Proofs.YtcfjjocmiheiaaaDoor
namespace Go.Proofs.YtcfjjocmiheiaaaDoor
open Go.ChangeShapes Go.WideShapes Go.ChangeAt Go.RowKit
def PartIs (g off a n:Nat)(e:Ending):Prop:=∃ o,e=.returned (.tuple #[.slice (some ⟨g,o,none⟩) n n,.bool true])∧(0<n→o=off+a)
theorem ret_part {g o m m':Nat}(h:m=m'):Ending.returned (.tuple #[.slice (some ⟨g,o,none⟩) m m,.bool true])=.returned (.tuple #[.slice (some ⟨g,o,none⟩) m' m',.bool true]):=by rw [h]
theorem part_yes (g off len cap:Nat)(a n:Int)(w:World)(hl:(len:Int)≤9223372036854775807)(hcap:len≤cap)(h0:0≤a)(h1:0≤n)(h2:a≤len)(h3:n≤len-a) :
  Calls Tryd.prog 148 #[.slice (some ⟨g,off,none⟩) len cap,.int .i64 a,.int .i64 n] w fun e w'=>PartIs g off a.toNat n.toNat e∧w=w':=by
 have e1:(a+n).toNat-a.toNat=n.toNat:=by omega
 have E:=Lib.hid e1
 clear e1
 go_enter Tryd.func148,Tryd.ntmps148
 go_wp2_with (go_at_call 85;refine (next_yes a n len _ h0 h1 h2 h3 hl).mono ?_;rintro e w' ⟨rfl,rfl⟩)
 · go_ret2
   exact ⟨⟨_,ret_part (show 0=n.toNat by omega),fun hn=>by omega⟩,rfl⟩
 · go_ret2
   exact ⟨⟨_,ret_part E.out,fun _=>rfl⟩,rfl⟩
theorem part_no (p:Option Addr)(len cap:Nat)(a n:Int)(w:World)(hl:(len:Int)≤9223372036854775807)(h:a<0∨n<0∨(len:Int)<a∨len-a<n) :
  Calls Tryd.prog 148 #[.slice p len cap,.int .i64 a,.int .i64 n] w fun e w'=>e=.returned (.tuple #[.slice none 0 0,.bool false])∧w=w':=by
 go_enter Tryd.func148,Tryd.ntmps148
 go_wp2_with (go_at_call 85;refine (next_no a n len _ h hl).mono ?_;rintro e w' ⟨rfl,rfl⟩)
 go_ret2
 exact ⟨rfl,rfl⟩
end Go.Proofs.YtcfjjocmiheiaaaDoor
namespace Go.Proofs.YtcfjjocmiheiaaaDoor
open Go.ChangeShapes Go.WideShapes Go.ChangeAt Go.RowKit
def IsMeter (w:World)(b:Nat)(left:Int)(out:Bool):Prop:=
 w.cell? ⟨b,0,none⟩=some (.int .i64 left)∧w.cell? ⟨b,1,none⟩=some (.bool out)∧w.frozen? ⟨b,0,none⟩=false∧w.frozen? ⟨b,1,none⟩=false
def atLeast0 (n:Int):Int:=if 0≤n then n else 0
theorem new_any (n:Int)(w:World) :
  Calls Tryd.prog 14 #[.int .i64 n] w fun e w'=>e=.returned (.pointer (some ⟨w.heap.size,0,none⟩))∧w'=w.alloc (.cells #[.int .i64 (atLeast0 n),.bool false] 106):=by
 by_cases h:0≤n
 · rw [show atLeast0 n=n from if_pos h]
   go_enter Tryd.func14,Tryd.ntmps14
   go_wp2
   go_ret
   first|exact ⟨rfl,rfl⟩|(rw [show max n 0=n by omega];exact ⟨rfl,rfl⟩)|(rw [show max n 0=0 by omega];exact ⟨rfl,rfl⟩)
 · rw [show atLeast0 n=0 from if_neg h]
   go_enter Tryd.func14,Tryd.ntmps14
   go_wp2
   go_ret
   first|exact ⟨rfl,rfl⟩|(rw [show max n 0=n by omega];exact ⟨rfl,rfl⟩)|(rw [show max n 0=0 by omega];exact ⟨rfl,rfl⟩)
theorem take_yes (b:Nat)(left n:Int)(w:World)(hm:IsMeter w b left false)(h0:0≤n)(h1:n≤left)(h2:left≤9223372036854775807) :
  Calls Tryd.prog 126 #[.pointer (some ⟨b,0,none⟩),.int .i64 n] w fun e w'=>e=.returned (.bool true)∧w'=w.setCell ⟨b,0,none⟩ (.int .i64 (left-n)):=by
 obtain ⟨c0,c1,f0,f1⟩:=hm
 go_enter Tryd.func126,Tryd.ntmps126
 go_wp2
 go_ret
 exact ⟨rfl,rfl⟩
theorem take_over (b:Nat)(left n:Int)(w:World)(hm:IsMeter w b left false)(h0:0≤n)(h1:left<n) :
  Calls Tryd.prog 126 #[.pointer (some ⟨b,0,none⟩),.int .i64 n] w fun e w'=>e=.returned (.bool false)∧w'=(w.setCell ⟨b,0,none⟩ (.int .i64 0)).setCell ⟨b,1,none⟩ (.bool true):=by
 obtain ⟨c0,c1,f0,f1⟩:=hm
 go_enter Tryd.func126,Tryd.ntmps126
 go_wp2
 go_ret
 exact ⟨rfl,rfl⟩
end Go.Proofs.YtcfjjocmiheiaaaDoor
namespace Go.Proofs.YtcfjjocmiheiaaaDoor
open Go.ChangeShapes Go.WideShapes Go.ChangeAt Go.RowKit Go.Shelf
structure WState (w:World)(wk m mt:Nat)(out:Bool)(left ml:Int)(mo:Bool):Prop where
 walk:w.heap[wk]?=some (.cells #[.pointer (some ⟨m,0,none⟩),.pointer (some ⟨mt,0,none⟩),.bool out,.int .i64 left] 116 (0,0))
 meter:w.heap[mt]?=some (.cells #[.int .i64 ml,.bool mo] 106 (0,0))
theorem WState.below {w W:World}{wk m mt:Nat}{out mo:Bool}{left ml:Int}(h:WState w wk m mt out left ml mo)(hb:Below w.heap.size w W):WState W wk m mt out left ml mo:=
 ⟨blk_below h.walk hb (blk_lt h.walk),blk_below h.meter hb (blk_lt h.meter)⟩
theorem WState.apart {w:World}{wk m mt:Nat}{out mo:Bool}{left ml:Int}(h:WState w wk m mt out left ml mo):wk≠mt:=fun e=>by
 have h1:=h.walk
 have h2:=h.meter
 rw [e,h2] at h1
 injection h1 with h1
 injection h1 with h1 _ _
 have h3:=congrArg Array.size h1
 simp at h3
theorem blk4w {w:World}{g:Nat}{x y z u:Value}{t:TypeId}(h:w.heap[g]?=some (.cells #[x,y,z,u] t (0,0))) :
  g<w.heap.size∧w.cell? ⟨g,0,none⟩=some x∧w.cell? ⟨g,1,none⟩=some y∧w.cell? ⟨g,2,none⟩=some z∧w.cell? ⟨g,3,none⟩=some u:=
 ⟨blk_lt h,(blk_cell h 0).trans rfl,(blk_cell h 1).trans rfl,(blk_cell h 2).trans rfl,(blk_cell h 3).trans rfl⟩
set_option maxHeartbeats 4000000 in
theorem freach_any (w:World){wk m mt:Nat}{out mo:Bool}{left ml:Int}(h:WState w wk m mt out left ml mo)(size:Int)(hb : -9000000000000000000≤left-size∧left-size≤9000000000000000000) :
  Calls Tryd.prog 99 #[.pointer (some ⟨wk,0,none⟩),.int .i64 size] w fun e w'=>e=.returned (.bool (decide (0≤left-size)))∧WState w' wk m mt out (left-size) ml mo∧Exw wk mt w.heap.size w w':=by
 obtain ⟨_,c0,c1,c2,c3⟩:=blk4w h.walk
 obtain ⟨l,hl0⟩:∃ l,left-size=l:=⟨_,rfl⟩
 have hw:IntKind.i64.wrap (left-size)=l:=by rw [←hl0];exact IntWalk.i64_in (left-size) (by omega)
 rw [hl0]
 have f3:=blk_frozen h.walk 3
 have HW:=Lib.hid ((blk_set h.walk 3 (.int .i64 l)).trans rfl)
 have HM:=Lib.hid (blk_set_ne h.meter (p:=⟨wk,3,none⟩) h.apart (.int .i64 l))
 have HX:=Lib.hid ((Exw.refl wk mt w.heap.size w).setCell (p:=⟨wk,3,none⟩) (.inl rfl) (.int .i64 l))
 clear h hl0
 by_cases hl:0≤l
 · have hd:decide (0≤l)=true:=decide_eq_true hl
   rw [hd]
   go_enter Tryd.func99,Tryd.ntmps99
   go_wp2
   go_ret
   exact ⟨rfl,⟨HW.out,HM.out⟩,HX.out⟩
 · have hd:decide (0≤l)=false:=decide_eq_false hl
   rw [hd]
   go_enter Tryd.func99,Tryd.ntmps99
   go_wp2
   go_ret
   exact ⟨rfl,⟨HW.out,HM.out⟩,HX.out⟩
theorem WState.isMeter {w:World}{wk m mt:Nat}{out mo:Bool}{left ml:Int}(h:WState w wk m mt out left ml mo):IsMeter w mt ml mo:=
 ⟨(blk_cell h.meter 0).trans rfl,(blk_cell h.meter 1).trans rfl,blk_frozen h.meter 0,blk_frozen h.meter 1⟩
set_option maxHeartbeats 4000000 in
theorem fpay_yes (w:World){wk m mt:Nat}{left ml:Int}(h:WState w wk m mt false left ml false)(n:Int)(h0:0≤n)(h1:n≤ml)(h2:ml≤9223372036854775807) :
  Calls Tryd.prog 100 #[.pointer (some ⟨wk,0,none⟩),.int .i64 n] w fun e w'=>e=.returned (.bool true)∧WState w' wk m mt false left (ml-n) false∧Exw wk mt w.heap.size w w':=by
 obtain ⟨_,c0,c1,c2,c3⟩:=blk4w h.walk
 have hap:=h.apart
 have HT:=Lib.hid (take_yes mt ml n w h.isMeter h0 h1 h2)
 have hW:=blk_set_ne h.walk (p:=⟨mt,0,none⟩) (fun e=>hap e.symm) (.int .i64 (ml-n))
 have hM:=(blk_set h.meter 0 (.int .i64 (ml-n))).trans rfl
 have hX:=(Exw.refl wk mt w.heap.size w).setCell (p:=⟨mt,0,none⟩) (.inr (.inl rfl)) (.int .i64 (ml-n))
 have HW:=Lib.hid ((blk_set hW 2 (.bool false)).trans rfl)
 have HM:=Lib.hid (blk_set_ne hM (p:=⟨wk,2,none⟩) hap (.bool false))
 have HX:=Lib.hid (hX.setCell (p:=⟨wk,2,none⟩) (.inl rfl) (.bool false))
 have HW0:=Lib.hid hW
 clear h hW hM hX
 go_enter Tryd.func100,Tryd.ntmps100
 go_wp2_with fail
 refine HT.out.mono ?_
 rintro e W1 ⟨rfl,rfl⟩
 generalize w.setCell ⟨mt,0,none⟩ (.int .i64 (ml-n))=W1 at *
 clear c0 c1 c2 c3
 obtain ⟨_,c0,c1,c2,c3⟩:=blk4w HW0.out
 have f2:=blk_frozen HW0.out 2
 go_wp2
 go_ret
 exact ⟨rfl,⟨HW.out,HM.out⟩,HX.out⟩
set_option maxHeartbeats 4000000 in
theorem fpay_no (w:World){wk m mt:Nat}{left ml:Int}(h:WState w wk m mt false left ml false)(n:Int)(h0:0≤n)(h1:ml<n) :
  Calls Tryd.prog 100 #[.pointer (some ⟨wk,0,none⟩),.int .i64 n] w fun e w'=>e=.returned (.bool false)∧WState w' wk m mt true left 0 true∧Exw wk mt w.heap.size w w':=by
 obtain ⟨_,c0,c1,c2,c3⟩:=blk4w h.walk
 have hap:=h.apart
 have HT:=Lib.hid (take_over mt ml n w h.isMeter h0 h1)
 have hW:=blk_set_ne (blk_set_ne h.walk (p:=⟨mt,0,none⟩) (fun e=>hap e.symm) (.int .i64 0)) (p:=⟨mt,1,none⟩) (fun e=>hap e.symm) (.bool true)
 have hM:=(blk_set ((blk_set h.meter 0 (.int .i64 0)).trans rfl:_=some (Obj.cells #[.int .i64 0,.bool false] 106 (0,0))) 1 (.bool true)).trans rfl
 have hX:=((Exw.refl wk mt w.heap.size w).setCell (p:=⟨mt,0,none⟩) (.inr (.inl rfl)) (.int .i64 0)).setCell (p:=⟨mt,1,none⟩) (.inr (.inl rfl)) (.bool true)
 have HW:=Lib.hid ((blk_set hW 2 (.bool true)).trans rfl)
 have HM:=Lib.hid (blk_set_ne hM (p:=⟨wk,2,none⟩) hap (.bool true))
 have HX:=Lib.hid (hX.setCell (p:=⟨wk,2,none⟩) (.inl rfl) (.bool true))
 have HW0:=Lib.hid hW
 clear h hW hM hX
 go_enter Tryd.func100,Tryd.ntmps100
 go_wp2_with fail
 refine HT.out.mono ?_
 rintro e W1 ⟨rfl,rfl⟩
 generalize (w.setCell ⟨mt,0,none⟩ (.int .i64 0)).setCell ⟨mt,1,none⟩ (.bool true)=W1 at *
 clear c0 c1 c2 c3
 obtain ⟨_,c0,c1,c2,c3⟩:=blk4w HW0.out
 have f2:=blk_frozen HW0.out 2
 go_wp2
 go_ret
 exact ⟨rfl,⟨HW.out,HM.out⟩,HX.out⟩
def RPost (res:Option (PV × Int))(wk m mt:Nat)(left ml:Int)(w:World)(e:Ending)(w':World):Prop:=
 Exw wk mt w.heap.size w w' ∧
 ((∃ v l' ml',res=some (v,l')∧(0≤l'∧l'≤left)∧e=.returned (.bool true)∧WState w' wk m mt false l' ml' false∧(0≤ml'∧ml'≤ml)∧(3 * left≤ml→3 * l'≤ml')) ∨
  (e=.returned (.bool false)∧∃ o l' ml' mo,WState w' wk m mt o l' ml' mo∧(o=false→res=none)∧(o=true→ml<3 * left)))
end Go.Proofs.YtcfjjocmiheiaaaDoor
