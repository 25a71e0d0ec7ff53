/-
  Plain facts on what is read of tokens: names of at most 40 bytes, defaults no longer than the tokens' texts. No run of the program stands in this text. Conditions: those that each theorem names.
-/
import Derived.Test.YtokhnoogkdlidaaGreatDoorPkP2
import Derived.Test.YtokhnoogkdlidaaGreatDoorPkP7
import Derived.Test.YtokhnoogkdlidaaGreatDoorPkP15
import Derived.Test.YtokhnoogkdlidaaGreatDoorPkP17
import Derived.Shelf.Pu.Clone
import Derived.Deep.QuietTactic
import Derived.BigQuiet
namespace Go.Proofs.YtokhnoogkdlidaaGreatDoor
open Go.ChangeShapes Go.WideShapes Go.ChangeAt Go.RowKit Go.Shelf
def MapKeys (W:World)(b:Nat)(ks:List ByteArray):Prop:=∃ l,MapAt W b l∧l.map Prod.fst=ks
theorem look_has:∀ (l:List (ByteArray × Value)) (s:ByteArray),(lookK l s).isSome=hasS (l.map Prod.fst) s
 | [],_=>rfl
 | p::r,s=>by
  rw [List.map_cons]
  show (lookK (p::r) s).isSome=(decide (s=p.1)||hasS (r.map Prod.fst) s)
  rw [lookK]
  split
  · rename_i h
    rw [decide_eq_true h]
    rfl
  · rename_i h
    rw [decide_eq_false h,Bool.false_or]
    exact look_has r s
theorem MapKeys.lt {W:World}{b:Nat}{ks:List ByteArray}(h:MapKeys W b ks):b<W.heap.size:=h.choose_spec.1.lt
theorem MapKeys.below {W W':World}{b B:Nat}{ks:List ByteArray}(h:MapKeys W b ks)(hb:Below B W W')(hlt:b<B):MapKeys W' b ks:=by
 obtain ⟨l,h1,h2⟩:=h
 exact ⟨l,h1.below hb hlt,h2⟩
theorem MapKeys.look {W:World}{b:Nat}{ks:List ByteArray}(h:MapKeys W b ks)(s:ByteArray){c:Bool}(hc:hasS ks s=c) :
  ∃ v,(Instr.lookup 133 (.map (some b)) (.string s) true).run Tryz.prog W=.ok (.tuple #[v,.bool c]) W:=by
 obtain ⟨l,h1,rfl⟩:=h
 refine ⟨(lookK l s).getD (.int .i64 0),?_⟩
 have:=h1.look ty_key int_map (int_zero W) s true
 rw [if_pos rfl,look_has,hc] at this
 exact this
theorem MapKeys.store {W:World}{b:Nat}{ks:List ByteArray}(h:MapKeys W b ks)(s:ByteArray)(v:Value)(hc:hasS ks s=false) :
  ∃ W',(Instr.mapUpdate 133 (.map (some b)) (.string s) v).run Tryz.prog W=.ok () W'∧MapKeys W' b (ks++[s])∧∀ B,Exc b B W W':=by
 obtain ⟨l,h1,rfl⟩:=h
 have hn:lookK l s=none:=by
  have:=look_has l s
  rw [hc] at this
  exact Option.not_isSome_iff_eq_none.1 (by rw [this];decide)
 obtain ⟨W',r1,r2,r3⟩:=h1.store ty_key int_map s v hn
 exact ⟨W',r1,⟨_,r2,by simp⟩,r3⟩
theorem MapKeys.made (W:World):MapKeys (W.alloc (.map #[] 0)) W.heap.size []:=⟨[],.made W,rfl⟩
def dupI:Option Nat→Int
 | none => -1
 | some k=>(k:Nat)
theorem dup_step {α:Type}(f:α→ByteArray)(l:List α)(k:Nat)(hk:k<l.length)(h:dup (l.map f)=dupFrom ((l.take k).map f) ((l.drop k).map f)) :
  (hasS ((l.take k).map f) (f l[k])=true→dup (l.map f)=some k)∧(hasS ((l.take k).map f) (f l[k])=false→dup (l.map f)=dupFrom ((l.take (k+1)).map f) ((l.drop (k+1)).map f)):=by
 rw [List.drop_eq_getElem_cons hk,List.map_cons] at h
 constructor
 · intro hc
   rw [h]
   show (if hasS _ _=true then some _ else _)=_
   rw [if_pos hc,List.length_map,List.length_take,Nat.min_eq_left (Nat.le_of_lt hk)]
 · intro hc
   rw [h]
   show (if hasS _ _=true then some _ else dupFrom _ _)=_
   rw [if_neg (by rw [hc];decide),List.take_succ_eq_append_getElem hk,List.map_append]
   rfl
theorem take_snoc_map {α:Type}(f:α→ByteArray)(l:List α)(k:Nat)(hk:k<l.length):(l.take (k+1)).map f=(l.take k).map f++[f l[k]]:=by
 rw [List.take_succ_eq_append_getElem hk,List.map_append]
 rfl
def AgainAt {α:Type}(f:α→ByteArray)(l:List α)(w:World)(i:Value)(wr:World):Prop:=
 ∃ k:Nat,k≤l.length∧i=.int .i64 k∧MapKeys wr w.heap.size ((l.take k).map f)∧Below w.heap.size w wr∧dup (l.map f)=dupFrom ((l.take k).map f) ((l.drop k).map f)
theorem name_tok (a c:Int)(s:ByteArray)(w:World):Calls Tryz.prog 72 #[.agg #[.int .i64 a,.string s,.int .i64 c]] w fun e w'=>e=.returned (.string s)∧Below w.heap.size w w':=by
 go_enter Tryz.func72,Tryz.ntmps72
 go_wp2
 go_ret
 exact ⟨rfl,(Below.refl _ _).alloc (Nat.le_refl _) _⟩
set_option maxRecDepth 100000 in
set_option maxHeartbeats 2000000 in
theorem again_tok (l:List Tok)(v:Value)(base:Nat)(w:World)(h:w.ownsRow base 97 3 v l.length (toksCells l)) :
  Calls Tryz.prog 71 #[v,.func (.func 72) #[] #[]] w fun e w'=>e=.returned (.int .i64 (dupI (dup (l.map tokT))))∧Below w.heap.size w w':=by
 obtain ⟨a,c,rfl⟩:=ownsRow_form h
 have hfew:=row_few h
 have HR:=Lib.hid h
 clear h
 have hmm:=@run_makeMap Tryz.prog
 have HMK:=Lib.hid (MapKeys.made w)
 have HBK:=Lib.hid (show Below w.heap.size w (w.alloc (.map #[] 0)) from (Below.refl _ _).alloc (Nat.le_refl _) _)
 go_enter Tryz.func71,Tryz.ntmps71
 go_wp2
 clear hmm
 go_loopw [13] (AgainAt tokT l w) (fun i _=>l.length-(intOf i).toNat)
 case atStart=>exact ⟨0,Nat.zero_le _,rfl,HMK.out,HBK.out,rfl⟩
 case round =>
  clear HMK HBK
  obtain ⟨k,hk,rfl,hm,hb,hd⟩:=hrel
  by_cases hkl:k<l.length
  · obtain ⟨g,cc,hv,hcc,hg,hcell⟩:=row_el tokCells 3 (fun _=>rfl) (row_keep hb HR.out) k hkl
    obtain ⟨rfl,rfl⟩:=slice_inj hv
    have x0:wr.cell? ⟨g,k * 3,none⟩=some (.int .i64 l[k].kind):=hcell 0 (by omega)
    have x1:wr.cell? ⟨g,k * 3+1,none⟩=some (.string (tokT l[k])):=hcell 1 (by omega)
    have x2:wr.cell? ⟨g,k * 3+2,none⟩=some (.int .i64 l[k].place):=hcell 2 (by omega)
    obtain ⟨d1,d2⟩:=dup_step tokT l k hkl hd
    have HTK:=Lib.hid (take_snoc_map tokT l k hkl)
    generalize l[k]=q at *
    have hwr:=hm.lt
    have HM:=Lib.hid hm
    have HB:=Lib.hid hb
    have HD1:=Lib.hid d1
    have HD2:=Lib.hid d2
    clear hm hb hd d1 d2 hcell hv
    go_wp2_with fail
    refine (name_tok _ _ _ _).mono ?_
    rintro e W1 ⟨rfl,hb1⟩
    have hbx:Below wr.heap.size wr W1:=((Below.refl _ _).alloc (Nat.le_refl _) _).trans (hb1.mono (by simp))
    have HM1:=Lib.hid (HM.out.below hbx hwr)
    have HB1:=Lib.hid (HB.out.trans (hbx.mono (by omega)))
    have hlt1:wr.heap.size<W1.heap.size:=by have:=hb1.size;simp at this;omega
    have HN:=Lib.hid (blk_below (heap_alloc_new wr _) hb1 (by simp))
    clear hbx hb1 HM HB
    cases hh:hasS ((l.take k).map tokT) (tokT q)
    · obtain ⟨v,hl⟩:=HM1.out.look _ hh
      have HD:=Lib.hid (HD2.out hh)
      have HH:=Lib.hid hh
      clear hh HD1 HD2
      have y0:W1.cell? ⟨wr.heap.size,0,none⟩=some (.int .i64 q.kind):=(blk_cell HN.out 0).trans rfl
      have y1:W1.cell? ⟨wr.heap.size,1,none⟩=some (.string (tokT q)):=(blk_cell HN.out 1).trans rfl
      have y2:W1.cell? ⟨wr.heap.size,2,none⟩=some (.int .i64 q.place):=(blk_cell HN.out 2).trans rfl
      go_upto_region 8 with (fail)
      clear hl
      go_wp2_with fail
      refine (name_tok _ _ _ _).mono ?_
      rintro e W2 ⟨rfl,hb2⟩
      have hms:=HM1.out.below hb2 (by omega)
      have HB2:=Lib.hid (HB1.out.trans (hb2.mono (by omega)))
      have hlt2:=hb2.size
      obtain ⟨W3,hr3,hm3,hx3⟩:=hms.store (tokT q) (.int .i64 k) HH.out
      have HM3:=Lib.hid hm3
      have HB3:=Lib.hid (HB2.out.trans ((hx3 _).below (Nat.le_refl w.heap.size)))
      clear hms hb2 hm3 hx3 HB1 HB2
      go_wp2
      go_roundw
      case rel=>exact ⟨k+1,by omega,by go_num,by rw [HTK.out];exact HM3.out,HB3.out,HD.out⟩
      case measure=>simp [intOf];omega
    · obtain ⟨v,hl⟩:=HM1.out.look _ hh
      have HD:=Lib.hid (HD1.out hh)
      clear hh HD1 HD2
      go_wp2
      go_ret
      exact ⟨by rw [HD.out];rfl,HB1.out⟩
  · obtain rfl:k=l.length:=by omega
    have HD:Hid (dup (l.map tokT)=none):=Lib.hid (by rw [hd,List.drop_length];rfl)
    have HB:=Lib.hid hb
    clear hm hb hd
    go_wp2
    go_ret
    exact ⟨by rw [HD.out];rfl,HB.out⟩
theorem name_fld (x1 x3 x4 x5 x7:Int)(s x2 x6:ByteArray)(w:World):Calls Tryz.prog 75 #[.agg #[.string s,.int .i64 x1,.string x2,.int .i64 x3,.int .i64 x4,.int .i64 x5,.string x6,.int .i64 x7]] w fun e w'=>e=.returned (.string s)∧Below w.heap.size w w':=by
 go_enter Tryz.func75,Tryz.ntmps75
 go_wp2
 go_ret
 exact ⟨rfl,(Below.refl _ _).alloc (Nat.le_refl _) _⟩
set_option maxRecDepth 100000 in
set_option maxHeartbeats 2000000 in
theorem again_fld (l:List RField)(v:Value)(base:Nat)(w:World)(h:w.ownsRow base 114 8 v l.length (fieldsCells l)) :
  Calls Tryz.prog 74 #[v,.func (.func 75) #[] #[]] w fun e w'=>e=.returned (.int .i64 (dupI (dup (l.map fldT))))∧Below w.heap.size w w':=by
 obtain ⟨a,c,rfl⟩:=ownsRow_form h
 have hfew:=row_few h
 have HR:=Lib.hid h
 clear h
 have hmm:=@run_makeMap Tryz.prog
 have HMK:=Lib.hid (MapKeys.made w)
 have HBK:=Lib.hid (show Below w.heap.size w (w.alloc (.map #[] 0)) from (Below.refl _ _).alloc (Nat.le_refl _) _)
 go_enter Tryz.func74,Tryz.ntmps74
 go_wp2
 clear hmm
 go_loopw [13] (AgainAt fldT l w) (fun i _=>l.length-(intOf i).toNat)
 case atStart=>exact ⟨0,Nat.zero_le _,rfl,HMK.out,HBK.out,rfl⟩
 case round =>
  clear HMK HBK
  obtain ⟨k,hk,rfl,hm,hb,hd⟩:=hrel
  by_cases hkl:k<l.length
  · obtain ⟨g,cc,hv,hcc,hg,hcell⟩:=row_el fieldCells 8 (fun _=>rfl) (row_keep hb HR.out) k hkl
    obtain ⟨rfl,rfl⟩:=slice_inj hv
    have x0:wr.cell? ⟨g,k * 8,none⟩=some (.string (fldT l[k])):=hcell 0 (by omega)
    have x1:wr.cell? ⟨g,k * 8+1,none⟩=some (.int .i64 l[k].place):=hcell 1 (by omega)
    have x2:wr.cell? ⟨g,k * 8+2,none⟩=some (.string (strOfNums l[k].ty.name)):=hcell 2 (by omega)
    have x3:wr.cell? ⟨g,k * 8+3,none⟩=some (.int .i64 l[k].ty.lists):=hcell 3 (by omega)
    have x4:wr.cell? ⟨g,k * 8+4,none⟩=some (.int .i64 l[k].ty.place):=hcell 4 (by omega)
    have x5:wr.cell? ⟨g,k * 8+5,none⟩=some (.int .i64 l[k].dflt.kind):=hcell 5 (by omega)
    have x6:wr.cell? ⟨g,k * 8+6,none⟩=some (.string (strOfNums l[k].dflt.text)):=hcell 6 (by omega)
    have x7:wr.cell? ⟨g,k * 8+7,none⟩=some (.int .i64 l[k].dflt.place):=hcell 7 (by omega)
    obtain ⟨d1,d2⟩:=dup_step fldT l k hkl hd
    have HTK:=Lib.hid (take_snoc_map fldT l k hkl)
    generalize l[k]=q at *
    have hwr:=hm.lt
    have HM:=Lib.hid hm
    have HB:=Lib.hid hb
    have HD1:=Lib.hid d1
    have HD2:=Lib.hid d2
    clear hm hb hd d1 d2 hcell hv
    go_wp2_with fail
    refine (name_fld _ _ _ _ _ _ _ _ _).mono ?_
    rintro e W1 ⟨rfl,hb1⟩
    have hbx:Below wr.heap.size wr W1:=((Below.refl _ _).alloc (Nat.le_refl _) _).trans (hb1.mono (by simp))
    have HM1:=Lib.hid (HM.out.below hbx hwr)
    have HB1:=Lib.hid (HB.out.trans (hbx.mono (by omega)))
    have hlt1:wr.heap.size<W1.heap.size:=by have:=hb1.size;simp at this;omega
    have HN:=Lib.hid (blk_below (heap_alloc_new wr _) hb1 (by simp))
    clear hbx hb1 HM HB
    cases hh:hasS ((l.take k).map fldT) (fldT q)
    · obtain ⟨v,hl⟩:=HM1.out.look _ hh
      have HD:=Lib.hid (HD2.out hh)
      have HH:=Lib.hid hh
      clear hh HD1 HD2
      have y0:W1.cell? ⟨wr.heap.size,0,none⟩=some (.string (fldT q)):=(blk_cell HN.out 0).trans rfl
      have y1:W1.cell? ⟨wr.heap.size,1,none⟩=some (.int .i64 q.place):=(blk_cell HN.out 1).trans rfl
      have y2:W1.cell? ⟨wr.heap.size,2,none⟩=some (.string (strOfNums q.ty.name)):=(blk_cell HN.out 2).trans rfl
      have y3:W1.cell? ⟨wr.heap.size,3,none⟩=some (.int .i64 q.ty.lists):=(blk_cell HN.out 3).trans rfl
      have y4:W1.cell? ⟨wr.heap.size,4,none⟩=some (.int .i64 q.ty.place):=(blk_cell HN.out 4).trans rfl
      have y5:W1.cell? ⟨wr.heap.size,5,none⟩=some (.int .i64 q.dflt.kind):=(blk_cell HN.out 5).trans rfl
      have y6:W1.cell? ⟨wr.heap.size,6,none⟩=some (.string (strOfNums q.dflt.text)):=(blk_cell HN.out 6).trans rfl
      have y7:W1.cell? ⟨wr.heap.size,7,none⟩=some (.int .i64 q.dflt.place):=(blk_cell HN.out 7).trans rfl
      go_upto_region 8 with (fail)
      clear hl
      go_wp2_with fail
      refine (name_fld _ _ _ _ _ _ _ _ _).mono ?_
      rintro e W2 ⟨rfl,hb2⟩
      have hms:=HM1.out.below hb2 (by omega)
      have HB2:=Lib.hid (HB1.out.trans (hb2.mono (by omega)))
      have hlt2:=hb2.size
      obtain ⟨W3,hr3,hm3,hx3⟩:=hms.store (fldT q) (.int .i64 k) HH.out
      have HM3:=Lib.hid hm3
      have HB3:=Lib.hid (HB2.out.trans ((hx3 _).below (Nat.le_refl w.heap.size)))
      clear hms hb2 hm3 hx3 HB1 HB2
      go_wp2
      go_roundw
      case rel=>exact ⟨k+1,by omega,by go_num,by rw [HTK.out];exact HM3.out,HB3.out,HD.out⟩
      case measure=>simp [intOf];omega
    · obtain ⟨v,hl⟩:=HM1.out.look _ hh
      have HD:=Lib.hid (HD1.out hh)
      clear hh HD1 HD2
      go_wp2
      go_ret
      exact ⟨by rw [HD.out];rfl,HB1.out⟩
  · obtain rfl:k=l.length:=by omega
    have HD:Hid (dup (l.map fldT)=none):=Lib.hid (by rw [hd,List.drop_length];rfl)
    have HB:=Lib.hid hb
    clear hm hb hd
    go_wp2
    go_ret
    exact ⟨by rw [HD.out];rfl,HB.out⟩
end Go.Proofs.YtokhnoogkdlidaaGreatDoor
namespace Go.Proofs.YtokhnoogkdlidaaGreatDoor
open Go.Proofs Go.Shelf
def Tryz.cloneRen:Go.Shelf.Ren:=⟨fun|25=>110 | n=>n,fun|9=>9 | 3=>3 | 4=>4 | 5=>5 | 37=>22 | 0=>0 | 47=>192 | n=>n,fun n=>n⟩
theorem Tryz.cloneLaid:Go.Proofs.LaysPu.n25 Tryz.prog Tryz.cloneRen:={
 mixed:=by kernel_rfl
 f25:=Tryz.func110.trans (congrArg some (by kernel_rfl))
 t0:=Tryz.underlying0
 a0:=Tryz.isAgg0
 z0:=Tryz.sizeOf0
 v0:=Tryz.zeroValue0
 i0:=by kernel_rfl
 t3:=Tryz.underlying3
 a3:=Tryz.isAgg3
 z3:=Tryz.sizeOf3
 v3:=Tryz.zeroValue3
 i3:=by kernel_rfl
 t4:=Tryz.underlying4
 a4:=Tryz.isAgg4
 z4:=Tryz.sizeOf4
 v4:=Tryz.zeroValue4
 i4:=by kernel_rfl
 t5:=Tryz.underlying5
 a5:=Tryz.isAgg5
 z5:=Tryz.sizeOf5
 v5:=Tryz.zeroValue5
 i5:=by kernel_rfl
 t9:=Tryz.underlying9
 a9:=Tryz.isAgg9
 z9:=Tryz.sizeOf9
 v9:=Tryz.zeroValue9
 i9:=by kernel_rfl
 t37:=Tryz.underlying22
 a37:=Tryz.isAgg22
 z37:=Tryz.sizeOf22
 v37:=Tryz.zeroValue22
 i37:=by kernel_rfl
 t47:=Tryz.underlying192
 a47:=Tryz.isAgg192
 z47:=Tryz.sizeOf192
 v47:=Tryz.zeroValue192
 i47:=by kernel_rfl }
open Go.ChangeShapes Go.WideShapes Go.ChangeAt Go.RowKit
theorem clone_any (s:ByteArray)(w:World)(hs:s.size≤281474976710656):Calls Tryz.prog 73 #[.string s] w fun e w'=>e=.returned (.string s)∧Below w.heap.size w w':=by
 have h:=AnyPu.stringslite_Clone Tryz.cloneLaid s w hs
 have H:=Lib.hid (show Calls Tryz.prog 110 #[.string s] w _ from h)
 clear h
 go_enter Tryz.func73,Tryz.ntmps73
 go_wp2_with fail
 refine H.out.mono ?_
 rintro e w' ⟨rfl,hb⟩
 have HB:=Lib.hid hb
 clear hb
 go_wp2
 go_ret
 exact ⟨rfl,HB.out⟩
theorem str_beq (a b:ByteArray):(a.toList==b.toList)=decide (a=b):=by
 rw [ByteArray.toList_eq,ByteArray.toList_eq,Bool.eq_iff_iff,beq_iff_eq,decide_eq_true_iff]
 refine ⟨fun h=>?_,fun h=>by rw [h]⟩
 obtain ⟨⟨a⟩⟩:=a
 obtain ⟨⟨b⟩⟩:=b
 simp only at h
 rw [h]
theorem idx_step (l:List ByteArray)(s:ByteArray)(k:Nat)(hk:k<l.length)(h:idx l s=(idx (l.drop k) s).map (· + k)):(l[k]=s→idx l s=some k)∧(l[k]≠s→idx l s=(idx (l.drop (k+1)) s).map (· + (k+1))):=by
 rw [List.drop_eq_getElem_cons hk,idx] at h
 constructor
 · intro he
   rw [h,if_pos he]
   simp
 · intro he
   rw [h,if_neg he,Option.map_map]
   congr 1
   funext x
   show x+1+k=x+(k+1)
   omega
set_option maxRecDepth 100000 in
set_option maxHeartbeats 2000000 in
theorem index_any (l:List ByteArray)(v:Value)(base:Nat)(w:World)(h:w.ownsRow base 9 1 v l.length (strsCells l))(s:ByteArray) :
  Calls Tryz.prog 143 #[v,.string s] w fun e w'=>e=.returned (.int .i64 (dupI (idx l s)))∧w=w':=by
 obtain ⟨a,c,rfl⟩:=ownsRow_form h
 have hfew:=row_few h
 have HR:=Lib.hid h
 have HI:=Lib.hid (show idx l s=(idx (l.drop 0) s).map (· + 0) by simp)
 clear h
 go_enter Tryz.func143,Tryz.ntmps143
 go_wp2
 go_loop [8] (fun i=>∃ k:Nat,k≤l.length∧i=.int .i64 k∧idx l s=(idx (l.drop k) s).map (· + k)) (fun i=>l.length-(intOf i).toNat)
 case atStart=>exact ⟨0,Nat.zero_le _,rfl,HI.out⟩
 case round =>
  clear HI
  obtain ⟨k,hk,rfl,hi⟩:=hrel
  by_cases hkl:k<l.length
  · obtain ⟨g,cc,hv,hcc,hg,hcell⟩:=row_el strCells 1 (fun _=>rfl) HR.out k hkl
    obtain ⟨rfl,rfl⟩:=slice_inj hv
    have x0:w.cell? ⟨g,k,none⟩=some (.string l[k]):=by have:=hcell 0 (by omega);rw [Nat.mul_one,Nat.add_zero] at this;exact this
    obtain ⟨d1,d2⟩:=idx_step l s k hkl hi
    generalize l[k]=q at *
    by_cases hq:q=s
    · subst hq
      have HD:=Lib.hid (d1 rfl)
      have hb:(q.toList==q.toList)=true:=by rw [str_beq];exact decide_eq_true rfl
      clear hi d1 d2 hcell hv
      go_wp2
      go_ret
      exact ⟨by rw [HD.out];rfl,rfl⟩
    · have HD:=Lib.hid (d2 hq)
      have hb:(s.toList==q.toList)=false:=by rw [str_beq];exact decide_eq_false (fun e=>hq e.symm)
      clear hi d1 d2 hcell hv hq
      go_wp2
      go_round
      case rel=>exact ⟨k+1,by omega,by go_num,HD.out⟩
      case measure=>simp [intOf];omega
  · obtain rfl:k=l.length:=by omega
    have HD:Hid (idx l s=none):=Lib.hid (by rw [hi,List.drop_length];rfl)
    clear hi
    go_wp2
    go_ret
    exact ⟨by rw [HD.out];rfl,rfl⟩
def optV:Option Nat→Value
 | none=>.tuple #[.int .u64 0,.bool false]
 | some n=>.tuple #[.int .u64 (n:Nat),.bool true]
theorem idx_lt:∀ (l:List ByteArray) (s:ByteArray) (k:Nat),idx l s=some k→k<l.length
 | [],_,_,h=>by cases h
 | a::r,s,k,h=>by
  rw [idx] at h
  split at h
  · cases h
    simp
  · obtain ⟨j,hj,rfl⟩:=Option.map_eq_some_iff.1 h
    have:=idx_lt r s j hj
    simp
    omega
set_option maxRecDepth 100000 in
set_option maxHeartbeats 2000000 in
theorem choose_any (t:Tok)(l:List ByteArray)(v:Value)(base:Nat)(w:World)(h:w.ownsRow base 9 1 v l.length (strsCells l)) :
  Calls Tryz.prog 132 #[.agg #[.int .i64 t.kind,.string (tokT t),.int .i64 t.place],v] w fun e w'=>e=.returned (optV (chooseM t l))∧Below w.heap.size w w':=by
 have hb:Below w.heap.size w (w.alloc (.cells #[.int .i64 t.kind,.string (tokT t),.int .i64 t.place] 97)):=(Below.refl _ _).alloc (Nat.le_refl _) _
 have HI:=Lib.hid (index_any l v base _ (row_keep hb h) (tokT t))
 have HB:=Lib.hid hb
 have HL:=Lib.hid (idx_lt l (tokT t))
 have hfew:=row_few h
 have HC:Hid (chooseM t l=if t.kind=1 then idx l (tokT t) else none):=Lib.hid rfl
 clear hb h
 go_enter Tryz.func132,Tryz.ntmps132
 go_wp2_with fail
 refine HI.out.mono ?_
 rintro e w' ⟨rfl,rfl⟩
 by_cases hk:t.kind=1
 · have HC':=Lib.hid (HC.out.trans (if_pos hk))
   generalize t.kind=K at *
   subst hk
   cases hx:idx l (tokT t) with
   | none =>
    have HX:=Lib.hid hx
    clear hx
    simp only [dupI]
    go_wp2
    go_ret2
    exact ⟨by rw [HC'.out,HX.out];rfl,HB.out⟩
   | some k =>
    have hlt:=HL.out k hx
    have HX:=Lib.hid hx
    have hw:IntKind.u64.wrap (k:Int)=k:=IntWalk.u64_in _ (by omega)
    clear hx
    simp only [dupI]
    go_wp2
    go_ret2
    exact ⟨by rw [HC'.out,HX.out];rfl,HB.out⟩
 · have HC':=Lib.hid (HC.out.trans (if_neg hk))
   generalize dupI (idx l (tokT t))=x at *
   go_wp2
   go_ret2
   exact ⟨by rw [HC'.out];rfl,HB.out⟩
end Go.Proofs.YtokhnoogkdlidaaGreatDoor
namespace Go.Proofs.YtokhnoogkdlidaaGreatDoor
open Go.RowKit
def AllB (r:List Tok):Prop:=∀ t ∈ r,t.text.length≤281474976710656
theorem AllB.tail {r:List Tok}(h:AllB r):AllB r.tail:=fun t ht=>h t (List.mem_of_mem_tail ht)
theorem AllB.hd {r:List Tok}(h:AllB r):(hd r).text.length≤281474976710656:=by
 cases r with
 | nil=>exact Nat.zero_le _
 | cons t q=>exact h t List.mem_cons_self
def Gv {α:Type}(P:α→Prop):Res α→Prop
 | .ok a r=>P a∧AllB r
 | .no _ _=>True
theorem gv_bind {α β:Type}{P:α→Prop}{Q:β→Prop}{x:Res α}{f:α→List Tok→Res β}(h:Gv P x)(hf:∀ a r,P a→AllB r→Gv Q (f a r)):Gv Q (x.bind f):=by
 cases x with
 | no c p=>trivial
 | ok a r=>exact hf a r h.1 h.2
theorem gv_bad {α:Type}{P:α→Prop}(c:Int)(r:List Tok):Gv P (bad c r:Res α):=trivial
def Short (t:Tok):Prop:=t.text.length≤40
theorem gv_want {s:List Int}{r:List Tok}(h:AllB r):Gv (fun _=>True) (wantR s r):=by
 unfold wantR
 split
 · exact ⟨trivial,h.tail⟩
 · exact gv_bad _ _
theorem gv_sized {r:List Tok}(h:AllB r):Gv Short (sizedR r):=by
 unfold sizedR
 split
 · exact gv_bad _ _
 · rename_i hn
   exact ⟨Nat.le_of_not_lt fun hc=>hn (.inr hc),h.tail⟩
theorem gv_name {r:List Tok}(h:AllB r):Gv Short (nameR r):=by
 unfold nameR
 split
 · exact gv_sized h
 · exact gv_bad _ _
theorem gv_label {r:List Tok}(h:AllB r):Gv Short (labelR r):=by
 unfold labelR
 split
 · exact gv_sized h
 · exact gv_bad _ _
theorem gv_value {r:List Tok}(h:AllB r):Gv (fun t:Tok=>t.text.length≤281474976710656) (valueR r):=by
 unfold valueR
 split
 · exact ⟨h.hd,h.tail⟩
 · exact gv_bad _ _
theorem gv_lists:∀ (f n:Nat) {r:List Tok},AllB r→Gv (fun _=>True) (listsR f n r)
 | 0,n,r,h=>by
  unfold listsR
  split
  · exact gv_bad _ _
  · exact ⟨trivial,h⟩
 | f+1,n,r,h=>by
  unfold listsR
  split
  · exact gv_bind (gv_want h.tail) fun _ r' _ h'=>gv_lists f (n+1) h'
  · exact ⟨trivial,h⟩
theorem gv_close:∀ (n:Nat) {r:List Tok},AllB r→Gv (fun _=>True) (closeR n r)
 | 0,_,h=>⟨trivial,h⟩
 | n+1,_,h=>gv_bind (gv_want h) fun _ _ _ h'=>gv_close n h'
theorem gv_ty {r:List Tok}(h:AllB r):Gv (fun y:RTy=>y.name.length≤40) (tyR r):=
 gv_bind (gv_lists 3 0 h) fun n _ _ h1=>gv_bind (gv_name h1) fun _ _ ht h2=>gv_bind (gv_close n h2) fun _ _ _ h3=>⟨ht,h3⟩
theorem gv_dflt {r:List Tok}(h:AllB r):Gv (fun t:Tok=>t.text.length≤281474976710656) (dfltR r):=by
 unfold dfltR
 split
 · exact gv_value h.tail
 · exact ⟨Nat.zero_le _,h⟩
def FldOk (f:RField):Prop:=f.name.length≤40∧f.ty.name.length≤40∧f.dflt.text.length≤281474976710656
theorem gv_field {r:List Tok}(h:AllB r):Gv FldOk (fieldR r):=
 gv_bind (gv_label h) fun _ _ ht h1=>gv_bind (gv_want h1) fun _ _ _ h2=>gv_bind (gv_ty h2) fun _ _ hy h3=>gv_bind (gv_dflt h3) fun _ _ hd h4=>gv_bind (gv_want h4) fun _ _ _ h5=>⟨⟨ht,hy,hd⟩,h5⟩
theorem snoc_all {α:Type}{P:α→Prop}{l:List α}{x:α}(h:∀ y ∈ l,P y)(hx:P x):∀ y ∈ l++[x],P y:=by
 intro y hy
 rcases List.mem_append.1 hy with hy|hy
 · exact h y hy
 · rw [List.mem_singleton.1 hy]
   exact hx
theorem gv_fields:∀ (f:Nat) {acc:List RField} {r:List Tok},(∀ x ∈ acc,FldOk x)→AllB r→Gv (fun l:List RField=>∀ x ∈ l,FldOk x) (fieldsR f acc r)
 | 0,acc,r,ha,h=>gv_bad _ _
 | f+1,acc,r,ha,h=>by
  unfold fieldsR
  split
  · exact ⟨ha,h.tail⟩
  · exact gv_bind (gv_field h) fun x r' hx h'=>gv_fields f (snoc_all ha hx) h'
def RecOk (s:RRec):Prop:=s.name.length≤40∧∀ f ∈ s.fields,FldOk f
theorem gv_rec {r:List Tok}(h:AllB r):Gv RecOk (recR r):=
 gv_bind (gv_name h) fun t r1 ht h1=>gv_bind (gv_want h1) fun _ r2 _ h2=>gv_bind (gv_fields r2.length (fun _ hx=>by cases hx) h2) fun fs r3 hf h3=>⟨⟨ht,hf⟩,h3⟩
theorem gv_comma {r:List Tok}(h:AllB r):Gv (fun _=>True) (commaR r):=by
 unfold commaR
 split
 · exact ⟨trivial,h⟩
 · exact gv_want h
theorem gv_names:∀ (f:Nat) {acc:List Tok} {r:List Tok},(∀ x ∈ acc,Short x)→AllB r→Gv (fun l:List Tok=>∀ x ∈ l,Short x) (namesR f acc r)
 | 0,acc,r,ha,h=>gv_bad _ _
 | f+1,acc,r,ha,h=>by
  unfold namesR
  split
  · exact ⟨ha,h.tail⟩
  · exact gv_bind (gv_name h) fun t r1 ht h1=>gv_bind (gv_comma h1) fun _ r2 _ h2=>gv_names f (snoc_all ha ht) h2
def ChoOk (s:RCho):Prop:=s.name.length≤40∧∀ t ∈ s.names,Short t
theorem gv_cho {r:List Tok}(h:AllB r):Gv ChoOk (choR r):=
 gv_bind (gv_name h) fun t r1 ht h1=>gv_bind (gv_want h1) fun _ r2 _ h2=>gv_bind (gv_names r2.length (fun _ hx=>by cases hx) h2) fun fs r3 hf h3=>⟨⟨ht,hf⟩,h3⟩
structure RawFit (x:RRaw):Prop where
 st:∀ s ∈ x.structs,RecOk s
 en:∀ e ∈ x.enums,ChoOk e
 rt:∀ t ∈ x.roots,Short t
theorem gv_part {a:RRaw}{r:List Tok}(ha:RawFit a)(h:AllB r):Gv RawFit (partR a r):=by
 unfold partR
 split
 · exact gv_bind (gv_rec h.tail) fun s r' hs h'=>⟨⟨snoc_all ha.st hs,ha.en,ha.rt⟩,h'⟩
 · split
   · exact gv_bind (gv_cho h.tail) fun s r' hs h'=>⟨⟨ha.st,snoc_all ha.en hs,ha.rt⟩,h'⟩
   · split
     · exact gv_bind (gv_name h.tail) fun t r1 ht h1=>gv_bind (gv_want h1) fun _ r' _ h'=>⟨⟨ha.st,ha.en,snoc_all ha.rt ht⟩,h'⟩
     · exact gv_bad _ _
theorem gv_schema:∀ (f:Nat) {a:RRaw} {r:List Tok},RawFit a→AllB r→Gv RawFit (schemaR f a r)
 | 0,a,r,ha,h=>gv_bad _ _
 | f+1,a,r,ha,h=>by
  unfold schemaR
  split
  · exact ⟨ha,h⟩
  · exact gv_bind (gv_part ha h) fun a' r' ha' h'=>gv_schema f ha' h'
theorem rawR_fit {l:List Tok}(h:AllB l):Gv RawFit (rawR l):=
 gv_schema l.length ⟨(fun _ hx=>by cases hx),(fun _ hx=>by cases hx),(fun _ hx=>by cases hx)⟩ h
theorem RawFit.ok {x:RRaw}(h:RawFit x):RawOk x where
 en:=fun e he=>⟨Nat.le_trans (h.en e he).1 (by decide),fun t ht=>Nat.le_trans ((h.en e he).2 t ht) (by decide)⟩
 st:=fun s hs=>⟨Nat.le_trans (h.st s hs).1 (by decide),fun f hf=>⟨((h.st s hs).2 f hf).2.2,Nat.le_trans ((h.st s hs).2 f hf).1 (by decide)⟩⟩
end Go.Proofs.YtokhnoogkdlidaaGreatDoor
