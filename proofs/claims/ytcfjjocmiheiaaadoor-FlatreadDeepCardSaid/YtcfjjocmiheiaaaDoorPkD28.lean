/-
  The document's own reading of tables: what it is told of; jumps, plain. Conditions: those that each theorem names.
-/
import Derived.Test.YtcfjjocmiheiaaaDoorPkD20
import Derived.Test.YtcfjjocmiheiaaaDoorPkD22
namespace Go.Proofs.YtcfjjocmiheiaaaDoor
open Go.ChangeShapes Go.WideShapes Go.ChangeAt Go.RowKit Go.Shelf
theorem SchRows.exw {base:Nat}{w W:World}{ss:List (SRec × Value)}{es:List (SCho × Value)}{sv ev:Value}(h:SchRows base w ss es sv ev){rk:Nat}{cs:Array Value}(hr:w.heap[rk]?=some (.cells cs 171 (0,0)))(hx:Exw rk rk w.heap.size w W):SchRows base W ss es sv ev:=
 ⟨hx.ownsRow h.structs (row_notblk h.structs hr (by decide)) (row_notblk h.structs hr (by decide)),
  hx.ownsRow h.enums (row_notblk h.enums hr (by decide)) (row_notblk h.enums hr (by decide)),
  fun q hq=>hx.ownsRow (h.fields q hq) (row_notblk (h.fields q hq) hr (by decide)) (row_notblk (h.fields q hq) hr (by decide)),
  fun q hq=>hx.ownsRow (h.names q hq) (row_notblk (h.names q hq) hr (by decide)) (row_notblk (h.names q hq) hr (by decide))⟩
theorem SchRows.rowV {base:Nat}{w:World}{ss:List (SRec × Value)}{es:List (SCho × Value)}{sv ev:Value}(h:SchRows base w ss es sv ev):RowV sv∧RowV ev:=by
 obtain ⟨a,c,h1⟩:=ownsRow_form h.structs
 obtain ⟨a',c',h2⟩:=ownsRow_form h.enums
 exact ⟨⟨a,_,c,h1⟩,⟨a',_,c',h2⟩⟩
structure DCtx (base B:Nat)(W:World)(rk:Nat)(sv ev:Value)(root:Int)(bp:Option Addr)(bc:Nat)(zs:List Int)(ss:List (SRec × Value))(es:List (SCho × Value))(left:Int):Prop where
 st:RdSt W rk sv ev root bp bc zs (lenZ zs-left) false
 rows:SchRows base W ss es sv ev
 hl:0≤left∧left≤lenZ zs
 hB:B≤W.heap.size∧B≤rk
 amb:Amb B W
 sch:SchM ss (es.map Prod.fst)
variable {base B:Nat} {W W':World} {rk:Nat} {sv ev:Value} {root:Int} {bp:Option Addr} {bc:Nat} {zs:List Int} {ss:List (SRec × Value)} {es:List (SCho × Value)} {left l':Int}
theorem DCtx.below (h:DCtx base B W rk sv ev root bp bc zs ss es left)(hb:Below W.heap.size W W'):DCtx base B W' rk sv ev root bp bc zs ss es left:=
 ⟨h.st.below hb,h.rows.below hb,h.hl,⟨Nat.le_trans h.hB.1 hb.size,h.hB.2⟩,h.amb.below (hb.mono h.hB.1),h.sch⟩
theorem DCtx.exw (h:DCtx base B W rk sv ev root bp bc zs ss es left)(hx:Exw rk rk W.heap.size W W')(hs:RdSt W' rk sv ev root bp bc zs (lenZ zs-l') false)(h1:0≤l'∧l'≤lenZ zs):DCtx base B W' rk sv ev root bp bc zs ss es l':=
 ⟨hs,h.rows.exw h.st.blk hx,h1,⟨Nat.le_trans h.hB.1 hx.size,h.hB.2⟩,h.amb.exw h.hB.1 h.hB.2 h.hB.2 hx,h.sch⟩
theorem DCtx.len (h:DCtx base B W rk sv ev root bp bc zs ss es left):lenZ zs≤16384:=by
 have:=h.st.len
 unfold lenZ
 omega
theorem DCtx.crows (h:DCtx base B W rk sv ev root bp bc zs ss es left)(V:World)(hx:Exw rk rk W.heap.size W V):CRows base V (crow ss) es sv ev:=(h.rows.exw h.st.blk hx).crows
def badJ (zs:List Int)(at':Int):Bool := !inZ (lenZ zs) at' 4 || !decide (at'+ldO zs at' 4≤lenZ zs)
def toJ (zs:List Int)(at':Int):Int:=if at'+ldO zs at' 4≤lenZ zs then at'+ldO zs at' 4 else 0
theorem jump_bad {zs:List Int}{at':Int}(h:badJ zs at'=true):jumpZ zs at'=none:=by
 unfold badJ ldO at h
 unfold jumpZ
 by_cases h1:inZ (lenZ zs) at' 4=true
 · rw [if_pos h1]
   rw [show inZ (lenZ zs) at' ((4:Nat):Int)=true from h1] at h
   simp only [if_true] at h
   rw [h1] at h
   simp only [Bool.not_true,Bool.false_or,Bool.not_eq_true',decide_eq_false_iff_not] at h
   exact if_neg h
 · exact if_neg h1
theorem jump_ok {zs:List Int}{at':Int}(h:badJ zs at'=false):jumpZ zs at'=some (toJ zs at')∧inZ (lenZ zs) at' 4=true:=by
 unfold badJ ldO at h
 unfold jumpZ toJ ldO
 by_cases h1:inZ (lenZ zs) at' 4=true
 · rw [if_pos h1]
   rw [show inZ (lenZ zs) at' ((4:Nat):Int)=true from h1] at h ⊢
   rw [h1] at h
   simp only [if_true,Bool.not_true,Bool.false_or,Bool.not_eq_false',decide_eq_true_eq] at h ⊢
   rw [if_pos h,if_pos h]
   exact ⟨rfl,h1⟩
 · rw [Bool.not_eq_true _ |>.mp h1] at h
   simp at h
theorem toJ_bd {zs:List Int}{at':Int}(hz:∀ i,0≤zs.getD i 0∧zs.getD i 0≤255)(ha : -1000000000≤at'∧at'≤1000000000) : -1000000000≤toJ zs at'∧toJ zs at'≤10000000000:=by
 have h:=ldO_lt (zs:=zs) (at':=at') (n:=4) hz
 unfold toJ
 split<;>omega
def reachOk (zs:List Int)(at' n left:Int):Bool:=inZ (lenZ zs) at' n&&decide (0≤left-n)
theorem reach_ctx (h:DCtx base B W rk sv ev root bp bc zs ss es left)(at' n:Int) :
  Calls Tryd.prog 105 #[.pointer (some ⟨rk,0,none⟩),.int .i64 at',.int .i64 n] W fun e w'=>Exw rk rk W.heap.size W w'∧((reachOk zs at' n left=true∧e=.returned (.bool true)∧RdSt w' rk sv ev root bp bc zs (lenZ zs-(left-n)) false) ∨
   (reachOk zs at' n left=false∧e=.returned (.bool false)∧∃ rc,0≤rc∧rc≤1000000000000∧RdSt w' rk sv ev root bp bc zs rc true)):=by
 have hl:=h.hl
 have hle:=h.len
 refine (rdreach_any W h.st h.rows.rowV at' n (by omega)).mono ?_
 rintro e w' ⟨bad',rc',he,hc,hs,hx⟩
 refine ⟨hx,?_⟩
 unfold reachOk
 by_cases hin:inZ (lenZ zs) at' n=true
 · have hi:=inZ_iff.1 hin
   rw [if_pos hin] at hc
   obtain ⟨h1,h2⟩:=hc
   rw [hin,Bool.true_and]
   by_cases h3:0≤left-n
   · left
     have h4:lenZ zs-left+n≤lenZ zs:=by omega
     rw [decide_eq_true h4] at h2
     subst h2
     have h5:rc'=lenZ zs-(left-n):=by omega
     subst h5
     exact ⟨decide_eq_true h3,he,hs⟩
   · right
     have h4:¬lenZ zs-left+n≤lenZ zs:=by omega
     rw [decide_eq_false h4] at h2
     subst h2
     exact ⟨decide_eq_false h3,he,rc',by omega,by omega,hs⟩
 · right
   rw [if_neg hin] at hc
   obtain ⟨h1,h2,h3⟩:=hc
   subst h1
   rw [Bool.not_eq_true _ |>.mp hin,Bool.false_and]
   exact ⟨rfl,h3,rc',by omega,by omega,hs⟩
end Go.Proofs.YtcfjjocmiheiaaaDoor
