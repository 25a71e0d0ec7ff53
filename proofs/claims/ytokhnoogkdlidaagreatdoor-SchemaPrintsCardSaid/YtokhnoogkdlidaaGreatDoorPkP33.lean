/-
  The package schema's declared: the names of a schema's enums and structs. Conditions: those that each theorem names.
-/
import Derived.Test.YtokhnoogkdlidaaGreatDoorPkP8
import Derived.Test.YtokhnoogkdlidaaGreatDoorPkP19
import Derived.Test.YtokhnoogkdlidaaGreatDoorPkP30
namespace Go.Proofs.YtokhnoogkdlidaaGreatDoor
open Go.ChangeShapes Go.WideShapes Go.ChangeAt Go.RowKit Go.Shelf
structure Tells {α:Type}(w:World)(gf:FuncId)(lb:Array Value)(val:α→Value)(l:List α)(p:α→Bool):Prop where
 enters:∀ args w,(callFunc gf args).run Tryz.prog w=.ok (.enter gf args) w
 gives:∀ (W:World) (x:α),x ∈ l→Below w.heap.size w W→Calls Tryz.prog gf (#[val x]++lb) W fun e w'=>e=.returned (.bool (p x))∧Below W.heap.size W w'
theorem all_take {α:Type}(p:α→Bool)(l:List α)(k:Nat)(hk:k<l.length):(l.take (k+1)).all p=((l.take k).all p&&p l[k]):=by
 rw [List.take_succ_eq_append_getElem hk,List.all_append]
 simp
theorem all_false {α:Type}(p:α→Bool)(l:List α)(k:Nat)(hk:k<l.length)(h:p l[k]=false):l.all p=false:=by
 rw [List.all_eq_false]
 exact ⟨l[k],List.getElem_mem hk,by rw [h];decide⟩
def AllAt {α:Type}(p:α→Bool)(l:List α)(w:World)(i:Value)(wr:World):Prop:=∃ k:Nat,k≤l.length∧i=.int .i64 k∧Below w.heap.size w wr∧(l.take k).all p=true
set_option maxRecDepth 100000 in
set_option maxHeartbeats 2000000 in
theorem all_str (l:List ByteArray)(p:ByteArray→Bool)(v:Value)(base:Nat)(w:World)(gf:FuncId)(lb:Array Value)(h:w.ownsRow base 9 1 v l.length (strsCells l))(hF:Tells w gf lb Value.string l p) :
  Calls Tryz.prog 22 #[v,.func (.func gf) #[] lb] w fun e w'=>e=.returned (.bool (l.all p))∧Below w.heap.size w w':=by
 obtain ⟨a,c,rfl⟩:=ownsRow_form h
 have hfew:=row_few h
 have HR:=Lib.hid h
 have he1:=hF.enters
 have HF:=Lib.hid hF.gives
 clear h hF
 go_enter Tryz.func22,Tryz.ntmps22
 go_wp2
 go_loopw [9] (AllAt p l w) (fun i _=>l.length-(intOf i).toNat)
 case atStart=>exact ⟨0,Nat.zero_le _,rfl,Below.refl _ _,rfl⟩
 case round =>
  obtain ⟨k,hk,rfl,hb,ha⟩:=hrel
  by_cases hkl:k<l.length
  · obtain ⟨g,cc,hv,hcc,hg,hcell⟩:=row_el strCells 1 (fun _=>rfl) (row_keep hb HR.out) k hkl
    obtain ⟨rfl,rfl⟩:=slice_inj hv
    have x0:wr.cell? ⟨g,k,none⟩=some (.string l[k]):=by have:=hcell 0 (by omega);rw [Nat.mul_one,Nat.add_zero] at this;exact this
    have HX:=Lib.hid (HF.out wr l[k] (List.getElem_mem hkl) hb)
    have HT1:=Lib.hid (all_take p l k hkl)
    have HT2:=Lib.hid (all_false p l k hkl)
    have HB:=Lib.hid hb
    have HA:=Lib.hid ha
    have hki:(k:Int)<l.length:=by omega
    generalize l[k]=q at *
    clear hcell hv hb ha
    go_wp2_with fail
    refine HX.out.mono ?_
    rintro e W1 ⟨rfl,hb1⟩
    have HB1:=Lib.hid (HB.out.trans (hb1.mono HB.out.size))
    clear hb1
    cases hp:p q
    · have HE:=Lib.hid (HT2.out hp)
      clear hp
      go_wp2
      go_ret
      exact ⟨ret_bool HE.out.symm,HB1.out⟩
    · have HE:=Lib.hid (show (l.take (k+1)).all p=true by rw [HT1.out,HA.out,hp];rfl)
      clear hp
      go_wp2
      go_roundw
      case rel=>exact ⟨k+1,by omega,by go_num,HB1.out,HE.out⟩
      case measure=>simp [intOf];omega
  · obtain rfl:k=l.length:=by omega
    have HE:=Lib.hid (show l.all p=true by rw [List.take_length] at ha;exact ha)
    have HB:=Lib.hid hb
    clear ha hb
    go_wp2
    go_ret
    exact ⟨ret_bool HE.out.symm,HB.out⟩
set_option maxRecDepth 100000 in
set_option maxHeartbeats 2000000 in
theorem all_cfld (l:List CFld)(p:CFld→Bool)(v:Value)(base:Nat)(w:World)(gf:FuncId)(lb:Array Value)(h:w.ownsRow base 49 5 v l.length (cfldsCells l))(hF:Tells w gf lb (fun f:CFld=>Value.agg #[.string f.name,.int .u8 (f.kind:Nat),.int .i64 f.ref,.int .i64 f.lists,.int .u64 (f.dflt:Nat)]) l p) :
  Calls Tryz.prog 54 #[v,.func (.func gf) #[] lb] w fun e w'=>e=.returned (.bool (l.all p))∧Below w.heap.size w w':=by
 obtain ⟨a,c,rfl⟩:=ownsRow_form h
 have hfew:=row_few h
 have HR:=Lib.hid h
 have he1:=hF.enters
 have HF:=Lib.hid hF.gives
 clear h hF
 go_enter Tryz.func54,Tryz.ntmps54
 go_wp2
 go_loopw [9] (AllAt p l w) (fun i _=>l.length-(intOf i).toNat)
 case atStart=>exact ⟨0,Nat.zero_le _,rfl,Below.refl _ _,rfl⟩
 case round =>
  obtain ⟨k,hk,rfl,hb,ha⟩:=hrel
  by_cases hkl:k<l.length
  · obtain ⟨g,cc,hv,hcc,hg,hcell⟩:=row_el cfldCells 5 (fun _=>rfl) (row_keep hb HR.out) k hkl
    obtain ⟨rfl,rfl⟩:=slice_inj hv
    have x0:wr.cell? ⟨g,k * 5,none⟩=some (.string l[k].name):=hcell 0 (by omega)
    have x1:wr.cell? ⟨g,k * 5+1,none⟩=some (.int .u8 (l[k].kind:Nat)):=hcell 1 (by omega)
    have x2:wr.cell? ⟨g,k * 5+2,none⟩=some (.int .i64 l[k].ref):=hcell 2 (by omega)
    have x3:wr.cell? ⟨g,k * 5+3,none⟩=some (.int .i64 l[k].lists):=hcell 3 (by omega)
    have x4:wr.cell? ⟨g,k * 5+4,none⟩=some (.int .u64 (l[k].dflt:Nat)):=hcell 4 (by omega)
    have HX:=Lib.hid (fun W' (hw:Below w.heap.size w W')=>HF.out W' l[k] (List.getElem_mem hkl) hw)
    have HT1:=Lib.hid (all_take p l k hkl)
    have HT2:=Lib.hid (all_false p l k hkl)
    have HB:=Lib.hid hb
    have HA:=Lib.hid ha
    have hki:(k:Int)<l.length:=by omega
    generalize l[k]=q at *
    clear hcell hv hb ha
    go_wp2_with fail
    refine (HX.out _ (HB.out.alloc HB.out.size _)).mono ?_
    rintro e W1 ⟨rfl,hb1⟩
    have HB1:=Lib.hid ((HB.out.alloc HB.out.size _).trans (hb1.mono (HB.out.alloc HB.out.size _).size))
    clear hb1
    cases hp:p q
    · have HE:=Lib.hid (HT2.out hp)
      clear hp
      go_wp2
      go_ret
      exact ⟨ret_bool HE.out.symm,HB1.out⟩
    · have HE:=Lib.hid (show (l.take (k+1)).all p=true by rw [HT1.out,HA.out,hp];rfl)
      clear hp
      go_wp2
      go_roundw
      case rel=>exact ⟨k+1,by omega,by go_num,HB1.out,HE.out⟩
      case measure=>simp [intOf];omega
  · obtain rfl:k=l.length:=by omega
    have HE:=Lib.hid (show l.all p=true by rw [List.take_length] at ha;exact ha)
    have HB:=Lib.hid hb
    clear ha hb
    go_wp2
    go_ret
    exact ⟨ret_bool HE.out.symm,HB.out⟩
set_option maxRecDepth 100000 in
set_option maxHeartbeats 2000000 in
theorem all_crec (l:List (CRec × Value))(p:(CRec × Value)→Bool)(v:Value)(base:Nat)(w:World)(gf:FuncId)(lb:Array Value)(h:w.ownsRow base 52 2 v l.length (crecsCells l))(hP:∀ q ∈ l,∃ a n c,q.2=.slice a n c)(hF:Tells w gf lb (fun q=>Value.agg #[.string q.1.name,q.2]) l p) :
  Calls Tryz.prog 28 #[v,.func (.func gf) #[] lb] w fun e w'=>e=.returned (.bool (l.all p))∧Below w.heap.size w w':=by
 obtain ⟨a,c,rfl⟩:=ownsRow_form h
 have hfew:=row_few h
 have HR:=Lib.hid h
 have he1:=hF.enters
 have HP:=Lib.hid hP
 have HF:=Lib.hid hF.gives
 clear h hF hP
 go_enter Tryz.func28,Tryz.ntmps28
 go_wp2
 go_loopw [9] (AllAt p l w) (fun i _=>l.length-(intOf i).toNat)
 case atStart=>exact ⟨0,Nat.zero_le _,rfl,Below.refl _ _,rfl⟩
 case round =>
  obtain ⟨k,hk,rfl,hb,ha⟩:=hrel
  by_cases hkl:k<l.length
  · obtain ⟨g,cc,hv,hcc,hg,hcell⟩:=row_el crecCells 2 (fun _=>rfl) (row_keep hb HR.out) k hkl
    obtain ⟨rfl,rfl⟩:=slice_inj hv
    have x0:wr.cell? ⟨g,k * 2,none⟩=some (.string l[k].1.name):=hcell 0 (by omega)
    have x1:wr.cell? ⟨g,k * 2+1,none⟩=some (l[k].2):=hcell 1 (by omega)
    obtain ⟨pa,pn,pc,hpv⟩:=HP.out l[k] (List.getElem_mem hkl)
    rw [hpv] at x1
    have hx:=fun W' (hw:Below w.heap.size w W')=>HF.out W' l[k] (List.getElem_mem hkl) hw
    simp only [hpv] at hx
    have HX:=Lib.hid hx
    clear hx hpv
    have HT1:=Lib.hid (all_take p l k hkl)
    have HT2:=Lib.hid (all_false p l k hkl)
    have HB:=Lib.hid hb
    have HA:=Lib.hid ha
    have hki:(k:Int)<l.length:=by omega
    generalize l[k]=q at *
    clear hcell hv hb ha
    go_wp2_with fail
    refine (HX.out _ (HB.out.alloc HB.out.size _)).mono ?_
    rintro e W1 ⟨rfl,hb1⟩
    have HB1:=Lib.hid ((HB.out.alloc HB.out.size _).trans (hb1.mono (HB.out.alloc HB.out.size _).size))
    clear hb1
    cases hp:p q
    · have HE:=Lib.hid (HT2.out hp)
      clear hp
      go_wp2
      go_ret
      exact ⟨ret_bool HE.out.symm,HB1.out⟩
    · have HE:=Lib.hid (show (l.take (k+1)).all p=true by rw [HT1.out,HA.out,hp];rfl)
      clear hp
      go_wp2
      go_roundw
      case rel=>exact ⟨k+1,by omega,by go_num,HB1.out,HE.out⟩
      case measure=>simp [intOf];omega
  · obtain rfl:k=l.length:=by omega
    have HE:=Lib.hid (show l.all p=true by rw [List.take_length] at ha;exact ha)
    have HB:=Lib.hid hb
    clear ha hb
    go_wp2
    go_ret
    exact ⟨ret_bool HE.out.symm,HB.out⟩
set_option maxRecDepth 100000 in
set_option maxHeartbeats 2000000 in
theorem all_cho (l:List (SCho × Value))(p:(SCho × Value)→Bool)(v:Value)(base:Nat)(w:World)(gf:FuncId)(lb:Array Value)(h:w.ownsRow base 55 2 v l.length (schosCells l))(hP:∀ q ∈ l,∃ a n c,q.2=.slice a n c)(hF:Tells w gf lb (fun q=>Value.agg #[.string q.1.name,q.2]) l p) :
  Calls Tryz.prog 26 #[v,.func (.func gf) #[] lb] w fun e w'=>e=.returned (.bool (l.all p))∧Below w.heap.size w w':=by
 obtain ⟨a,c,rfl⟩:=ownsRow_form h
 have hfew:=row_few h
 have HR:=Lib.hid h
 have he1:=hF.enters
 have HP:=Lib.hid hP
 have HF:=Lib.hid hF.gives
 clear h hF hP
 go_enter Tryz.func26,Tryz.ntmps26
 go_wp2
 go_loopw [9] (AllAt p l w) (fun i _=>l.length-(intOf i).toNat)
 case atStart=>exact ⟨0,Nat.zero_le _,rfl,Below.refl _ _,rfl⟩
 case round =>
  obtain ⟨k,hk,rfl,hb,ha⟩:=hrel
  by_cases hkl:k<l.length
  · obtain ⟨g,cc,hv,hcc,hg,hcell⟩:=row_el schoCells 2 (fun _=>rfl) (row_keep hb HR.out) k hkl
    obtain ⟨rfl,rfl⟩:=slice_inj hv
    have x0:wr.cell? ⟨g,k * 2,none⟩=some (.string l[k].1.name):=hcell 0 (by omega)
    have x1:wr.cell? ⟨g,k * 2+1,none⟩=some (l[k].2):=hcell 1 (by omega)
    obtain ⟨pa,pn,pc,hpv⟩:=HP.out l[k] (List.getElem_mem hkl)
    rw [hpv] at x1
    have hx:=fun W' (hw:Below w.heap.size w W')=>HF.out W' l[k] (List.getElem_mem hkl) hw
    simp only [hpv] at hx
    have HX:=Lib.hid hx
    clear hx hpv
    have HT1:=Lib.hid (all_take p l k hkl)
    have HT2:=Lib.hid (all_false p l k hkl)
    have HB:=Lib.hid hb
    have HA:=Lib.hid ha
    have hki:(k:Int)<l.length:=by omega
    generalize l[k]=q at *
    clear hcell hv hb ha
    go_wp2_with fail
    refine (HX.out _ (HB.out.alloc HB.out.size _)).mono ?_
    rintro e W1 ⟨rfl,hb1⟩
    have HB1:=Lib.hid ((HB.out.alloc HB.out.size _).trans (hb1.mono (HB.out.alloc HB.out.size _).size))
    clear hb1
    cases hp:p q
    · have HE:=Lib.hid (HT2.out hp)
      clear hp
      go_wp2
      go_ret
      exact ⟨ret_bool HE.out.symm,HB1.out⟩
    · have HE:=Lib.hid (show (l.take (k+1)).all p=true by rw [HT1.out,HA.out,hp];rfl)
      clear hp
      go_wp2
      go_roundw
      case rel=>exact ⟨k+1,by omega,by go_num,HB1.out,HE.out⟩
      case measure=>simp [intOf];omega
  · obtain rfl:k=l.length:=by omega
    have HE:=Lib.hid (show l.all p=true by rw [List.take_length] at ha;exact ha)
    have HB:=Lib.hid hb
    clear ha hb
    go_wp2
    go_ret
    exact ⟨ret_bool HE.out.symm,HB.out⟩
theorem name_cfld (x1 x2 x3 x4:Int)(s:ByteArray)(w:World):Calls Tryz.prog 58 #[.agg #[.string s,.int .u8 x1,.int .i64 x2,.int .i64 x3,.int .u64 x4]] w fun e w'=>e=.returned (.string s)∧Below w.heap.size w w':=by
 go_enter Tryz.func58,Tryz.ntmps58
 go_wp2
 go_ret
 exact ⟨rfl,(Below.refl _ _).alloc (Nat.le_refl _) _⟩
set_option maxRecDepth 100000 in
set_option maxHeartbeats 2000000 in
theorem again_cfldS (l:List CFld)(v:Value)(base:Nat)(w:World)(h:w.ownsRow base 49 5 v l.length (cfldsCells l)) :
  Calls Tryz.prog 57 #[v,.func (.func 58) #[] #[]] w fun e w'=>e=.returned (.int .i64 (dupI (dup (l.map CFld.name))))∧Below w.heap.size w w':=by
 obtain ⟨a,c,rfl⟩:=ownsRow_form h
 have hfew:=row_few h
 have HR:=Lib.hid h
 clear h
 have hmm:=@run_makeMap Tryz.prog
 have HMK:=Lib.hid (MapKeys.made w)
 have HBK:=Lib.hid (show Below w.heap.size w (w.alloc (.map #[] 0)) from (Below.refl _ _).alloc (Nat.le_refl _) _)
 go_enter Tryz.func57,Tryz.ntmps57
 go_wp2
 clear hmm
 go_loopw [13] (AgainAt CFld.name l w) (fun i _=>l.length-(intOf i).toNat)
 case atStart=>exact ⟨0,Nat.zero_le _,rfl,HMK.out,HBK.out,rfl⟩
 case round =>
  clear HMK HBK
  obtain ⟨k,hk,rfl,hm,hb,hd⟩:=hrel
  by_cases hkl:k<l.length
  · obtain ⟨g,cc,hv,hcc,hg,hcell⟩:=row_el cfldCells 5 (fun _=>rfl) (row_keep hb HR.out) k hkl
    obtain ⟨rfl,rfl⟩:=slice_inj hv
    have x0:wr.cell? ⟨g,k * 5,none⟩=some (.string l[k].name):=hcell 0 (by omega)
    have x1:wr.cell? ⟨g,k * 5+1,none⟩=some (.int .u8 (l[k].kind:Nat)):=hcell 1 (by omega)
    have x2:wr.cell? ⟨g,k * 5+2,none⟩=some (.int .i64 l[k].ref):=hcell 2 (by omega)
    have x3:wr.cell? ⟨g,k * 5+3,none⟩=some (.int .i64 l[k].lists):=hcell 3 (by omega)
    have x4:wr.cell? ⟨g,k * 5+4,none⟩=some (.int .u64 (l[k].dflt:Nat)):=hcell 4 (by omega)
    obtain ⟨d1,d2⟩:=dup_step CFld.name l k hkl hd
    have HTK:=Lib.hid (take_snoc_map CFld.name l k hkl)
    generalize l[k]=q at *
    have hwr:=hm.lt
    have HM:=Lib.hid hm
    have HB:=Lib.hid hb
    have HD1:=Lib.hid d1
    have HD2:=Lib.hid d2
    clear hm hb hd d1 d2 hcell hv
    go_wp2_with fail
    refine (name_cfld _ _ _ _ _ _).mono ?_
    rintro e W1 ⟨rfl,hb1⟩
    have hbx:Below wr.heap.size wr W1:=((Below.refl _ _).alloc (Nat.le_refl _) _).trans (hb1.mono (by simp))
    have HM1:=Lib.hid (HM.out.below hbx hwr)
    have HB1:=Lib.hid (HB.out.trans (hbx.mono (by omega)))
    have hlt1:wr.heap.size<W1.heap.size:=by have:=hb1.size;simp at this;omega
    have HN:=Lib.hid (blk_below (heap_alloc_new wr _) hb1 (by simp))
    clear hbx hb1 HM HB
    cases hh:hasS ((l.take k).map CFld.name) (CFld.name q)
    · obtain ⟨v,hl⟩:=HM1.out.look _ hh
      have HD:=Lib.hid (HD2.out hh)
      have HH:=Lib.hid hh
      clear hh HD1 HD2
      have y0:W1.cell? ⟨wr.heap.size,0,none⟩=some (.string q.name):=(blk_cell HN.out 0).trans rfl
      have y1:W1.cell? ⟨wr.heap.size,1,none⟩=some (.int .u8 (q.kind:Nat)):=(blk_cell HN.out 1).trans rfl
      have y2:W1.cell? ⟨wr.heap.size,2,none⟩=some (.int .i64 q.ref):=(blk_cell HN.out 2).trans rfl
      have y3:W1.cell? ⟨wr.heap.size,3,none⟩=some (.int .i64 q.lists):=(blk_cell HN.out 3).trans rfl
      have y4:W1.cell? ⟨wr.heap.size,4,none⟩=some (.int .u64 (q.dflt:Nat)):=(blk_cell HN.out 4).trans rfl
      go_upto_region 8 with (fail)
      clear hl
      go_wp2_with fail
      refine (name_cfld _ _ _ _ _ _).mono ?_
      rintro e W2 ⟨rfl,hb2⟩
      have hms:=HM1.out.below hb2 (by omega)
      have HB2:=Lib.hid (HB1.out.trans (hb2.mono (by omega)))
      have hlt2:=hb2.size
      obtain ⟨W3,hr3,hm3,hx3⟩:=hms.store (CFld.name q) (.int .i64 k) HH.out
      have HM3:=Lib.hid hm3
      have HB3:=Lib.hid (HB2.out.trans ((hx3 _).below (Nat.le_refl w.heap.size)))
      clear hms hb2 hm3 hx3 HB1 HB2
      go_wp2
      go_roundw
      case rel=>exact ⟨k+1,by omega,by go_num,by rw [HTK.out];exact HM3.out,HB3.out,HD.out⟩
      case measure=>simp [intOf];omega
    · obtain ⟨v,hl⟩:=HM1.out.look _ hh
      have HD:=Lib.hid (HD1.out hh)
      clear hh HD1 HD2
      go_wp2
      go_ret
      exact ⟨by rw [HD.out];rfl,HB1.out⟩
  · obtain rfl:k=l.length:=by omega
    have HD:Hid (dup (l.map CFld.name)=none):=Lib.hid (by rw [hd,List.drop_length];rfl)
    have HB:=Lib.hid hb
    clear hm hb hd
    go_wp2
    go_ret
    exact ⟨by rw [HD.out];rfl,HB.out⟩
theorem name_str (s:ByteArray)(w:World):Calls Tryz.prog 25 #[.string s] w fun e w'=>e=.returned (.string s)∧w'=w:=by
 go_enter Tryz.func25,Tryz.ntmps25
 go_wp2
 go_ret
 exact ⟨rfl,rfl⟩
set_option maxRecDepth 100000 in
set_option maxHeartbeats 2000000 in
theorem again_strS (l:List ByteArray)(v:Value)(base:Nat)(w:World)(h:w.ownsRow base 9 1 v l.length (strsCells l)) :
  Calls Tryz.prog 24 #[v,.func (.func 25) #[] #[]] w fun e w'=>e=.returned (.int .i64 (dupI (dup (l.map id))))∧Below w.heap.size w w':=by
 obtain ⟨a,c,rfl⟩:=ownsRow_form h
 have hfew:=row_few h
 have HR:=Lib.hid h
 clear h
 have hmm:=@run_makeMap Tryz.prog
 have HMK:=Lib.hid (MapKeys.made w)
 have HBK:=Lib.hid (show Below w.heap.size w (w.alloc (.map #[] 0)) from (Below.refl _ _).alloc (Nat.le_refl _) _)
 go_enter Tryz.func24,Tryz.ntmps24
 go_wp2
 clear hmm
 go_loopw [13] (AgainAt id l w) (fun i _=>l.length-(intOf i).toNat)
 case atStart=>exact ⟨0,Nat.zero_le _,rfl,HMK.out,HBK.out,rfl⟩
 case round =>
  clear HMK HBK
  obtain ⟨k,hk,rfl,hm,hb,hd⟩:=hrel
  by_cases hkl:k<l.length
  · obtain ⟨g,cc,hv,hcc,hg,hcell⟩:=row_el strCells 1 (fun _=>rfl) (row_keep hb HR.out) k hkl
    obtain ⟨rfl,rfl⟩:=slice_inj hv
    have x0:wr.cell? ⟨g,k,none⟩=some (.string l[k]):=by have:=hcell 0 (by omega);rw [Nat.mul_one,Nat.add_zero] at this;exact this
    obtain ⟨d1,d2⟩:=dup_step id l k hkl hd
    have HTK:=Lib.hid (take_snoc_map id l k hkl)
    generalize l[k]=q at *
    have hwr:=hm.lt
    have HM:=Lib.hid hm
    have HB:=Lib.hid hb
    have HD1:=Lib.hid d1
    have HD2:=Lib.hid d2
    clear hm hb hd d1 d2 hcell hv
    go_wp2_with fail
    refine (name_str _ _).mono ?_
    rintro e W1 ⟨rfl,rfl⟩
    have HM1:=Lib.hid HM.out
    have HB1:=Lib.hid HB.out
    clear HM HB
    cases hh:hasS ((l.take k).map id) (id q)
    · obtain ⟨v,hl⟩:=HM1.out.look _ hh
      simp only [id_eq] at hl
      have HD:=Lib.hid (HD2.out hh)
      have HH:=Lib.hid hh
      clear hh HD1 HD2
      go_upto_region 8 with (fail)
      clear hl
      go_wp2_with fail
      refine (name_str _ _).mono ?_
      rintro e W2 ⟨rfl,rfl⟩
      have hms:=HM1.out
      have HB2:=Lib.hid HB1.out
      obtain ⟨W3,hr3,hm3,hx3⟩:=hms.store (id q) (.int .i64 k) HH.out
      simp only [id_eq] at hr3
      have HM3:=Lib.hid hm3
      have HB3:=Lib.hid (HB2.out.trans ((hx3 _).below (Nat.le_refl w.heap.size)))
      clear hms hm3 hx3 HB1 HB2
      go_wp2
      go_roundw
      case rel=>exact ⟨k+1,by omega,by go_num,by rw [HTK.out];exact HM3.out,HB3.out,HD.out⟩
      case measure=>simp [intOf];omega
    · obtain ⟨v,hl⟩:=HM1.out.look _ hh
      simp only [id_eq] at hl
      have HD:=Lib.hid (HD1.out hh)
      clear hh HD1 HD2
      go_wp2
      go_ret
      exact ⟨by rw [HD.out];rfl,HB1.out⟩
  · obtain rfl:k=l.length:=by omega
    have HD:Hid (dup (l.map id)=none):=Lib.hid (by rw [hd,List.drop_length];rfl)
    have HB:=Lib.hid hb
    clear hm hb hd
    go_wp2
    go_ret
    exact ⟨by rw [HD.out];rfl,HB.out⟩
end Go.Proofs.YtokhnoogkdlidaaGreatDoor
namespace Go.Proofs.YtokhnoogkdlidaaGreatDoor
open Go.ChangeShapes Go.WideShapes Go.ChangeAt Go.RowKit Go.Shelf
def DclAt {α:Type}(o:Obj)(f:α→ByteArray)(n0:Nat)(acc:List ByteArray)(l:List α)(w:World)(nv i:Value)(wr:World):Prop:=
 ∃ k:Nat,k≤l.length∧i=.int .i64 k∧Below w.heap.size w wr∧wr.heap[w.heap.size]?=some o∧wr.ownsRow (w.heap.size+1) 9 1 nv (k+n0) (strsCells (acc++(l.take k).map f))
theorem dcl_app {w wr W2 W8:World}{o:Obj}{nv:Value}{n:Nat}{xs:List Value}(hb:Below w.heap.size w wr)(hbox:wr.heap[w.heap.size]?=some o)(hrow:wr.ownsRow (w.heap.size+1) 9 1 nv n xs)(h2:Below wr.heap.size wr W2)
  (hg:W2.grownBy W8 nv.ownBlock):Below w.heap.size w W8∧W8.heap[w.heap.size]?=some o:=by
 have hlt:=blk_lt hbox
 exact ⟨(hb.trans (h2.mono (Nat.le_of_lt hlt))).grown hg (by have:=h2.size;omega) (fun k hk=>by have:=(ownsRow_lt hrow k hk).1;omega),
  (hg.block _ (Nat.lt_of_lt_of_le hlt h2.size) (fun e=>by have:=(ownsRow_lt hrow _ e.symm).1;omega)).trans ((h2.block _ hlt).trans hbox)⟩
set_option maxRecDepth 100000 in
set_option maxHeartbeats 4000000 in
theorem declared_any (w:World){base:Nat}{ss:List (CRec × Value)}{es:List (SCho × Value)}{sv ev:Value}(root:Int)(h:CRows base w ss es sv ev)(h1:ss.length≤16)(h2:es.length≤8) :
  Calls Tryz.prog 21 #[.agg #[sv,ev,.int .i64 root]] w fun e w'=>∃ nv,e=.returned nv∧w'.ownsRow w.heap.size 9 1 nv (ss.length+es.length) (strsCells ((es.map fun q=>q.1.name)++ss.map fun q=>q.1.name))∧Below w.heap.size w w':=by
 obtain ⟨sa,sc,ea,ec,rfl,rfl⟩:=h.forms
 have HH:=Lib.hid h
 have h0:=heap_alloc_new w (.cells #[.slice sa ss.length sc,.slice ea es.length ec,.int .i64 root] 30)
 have HB0:=Lib.hid ((Below.refl w.heap.size w).alloc (Nat.le_refl _) (.cells #[.slice sa ss.length sc,.slice ea es.length ec,.int .i64 root] 30))
 have HBOX:=Lib.hid h0
 obtain ⟨i0,hi0,hzz0,hzz1,hzz2⟩:=info_parts str_info
 have I1:=Lib.hid hi0
 have I2:=Lib.hid hzz0
 have I3:=Lib.hid hzz1
 have I4:=Lib.hid hzz2
 obtain ⟨_,p0,p1,p2,_⟩:=blk3 h0
 clear hi0 hzz0 hzz1 hzz2 h0 h
 go_enter Tryz.func21,Tryz.ntmps21
 go_wp2
 go_loopw [3,11] (DclAt (.cells #[.slice sa ss.length sc,.slice ea es.length ec,.int .i64 root] 30 (0,0)) (fun q:SCho × Value=>q.1.name) 0 [] es w) (fun _ i _=>es.length-(intOf i).toNat)
 case atStart=>exact ⟨0,Nat.zero_le _,rfl,HB0.out,HBOX.out,World.ownsRow_nil _ _ _ _⟩
 case round =>
  clear HB0 HBOX
  obtain ⟨k,hk,rfl,hb,hbox,hown⟩:=hrel
  have hlt:=blk_lt hbox
  have HB:=Lib.hid hb
  have HX:=Lib.hid hbox
  have HOWN:=Lib.hid hown
  obtain ⟨nva,nvc,rfl⟩:=ownsRow_form hown
  by_cases hkl:k<es.length
  · obtain ⟨g,cc,hv,hcc,hg,hcell⟩:=row_el schoCells 2 (fun _=>rfl) (row_keep hb HH.out.enums) k hkl
    obtain ⟨rfl,rfl⟩:=slice_inj hv
    obtain ⟨na,nc,hnv⟩:=ownsRow_form (HH.out.names _ (List.getElem_mem hkl))
    have x0:wr.cell? ⟨g,k * 2,none⟩=some (.string es[k].1.name):=hcell 0 (by omega)
    have x1:wr.cell? ⟨g,k * 2+1,none⟩=some (.slice na es[k].1.names.length nc):=by rw [←hnv];exact hcell 1 (by omega)
    have HTK:=Lib.hid (take_snoc_map (fun q:SCho × Value=>q.1.name) es k hkl)
    generalize es[k]=q at *
    have HBT:=Lib.hid ((Below.refl wr.heap.size wr).alloc (Nat.le_refl _) (.cells #[.string q.1.name,.slice na q.1.names.length nc] 55))
    have HTN:=Lib.hid (heap_alloc_new wr (.cells #[.string q.1.name,.slice na q.1.names.length nc] 55))
    have hki:(k:Int)<es.length:=by omega
    clear hb hbox hown hv hcell hnv
    go_upto_region 5 with (fail)
    generalize wr.alloc (.cells #[.string q.1.name,.slice na q.1.names.length nc] 55)=Wt at *
    clear x0 x1
    obtain ⟨_,z0,z1,_⟩:=blk2 HTN.out
    have hnt:wr.heap.size<Wt.heap.size:=blk_lt HTN.out
    go_wp2_with (at_builtin;refine wpList_append_own _ rfl (.tmp 15) (.tmp 18) 53 rfl (w.heap.size+1) 9 i0 _ 1 16 Tryz.underlying53 I1.out I2.out I3.out I4.out rfl (by decide) _ (k+0) (strsCells ([]++(es.take k).map fun q=>q.1.name)) rfl (row_keep (HBT.out.trans ((Below.refl _ _).alloc HBT.out.size _)) HOWN.out) _ 1 1 [.string q.1.name] rfl rfl (World.news_of_block (heap_alloc_new _ _)) (by intro u hu;rw [List.mem_singleton.1 hu];rfl) (by unfold maxLen;omega) (by omega) (by simp;omega) ?_;intro v4 W8 hown4 hg4 hx;clear hx;obtain ⟨a4,m4,rfl⟩:=ownsRow_form hown4;obtain ⟨s1,s2⟩:=dcl_app HB.out HX.out HOWN.out (HBT.out.trans ((Below.refl _ _).alloc HBT.out.size _)) hg4;have S1:=Lib.hid s1;have S2:=Lib.hid s2;have S3:=Lib.hid hown4;clear s1 s2 hown4 hg4)
    go_roundw
    case rel=>exact ⟨k+1,by omega,by go_num,S1.out,S2.out,by rw [HTK.out,←List.append_assoc,strsCells_snoc,Nat.succ_add_eq_add_succ k];exact S3.out⟩
    case measure=>simp [intOf];omega
  · obtain rfl:k=es.length:=by omega
    have hown:=HOWN.out
    rw [List.take_length] at hown
    have HOWN2:=Lib.hid hown
    clear hb hbox hown HOWN
    obtain ⟨_,p0,p1,p2,_⟩:=blk3 HX.out
    go_wp2
    go_loopw [3,24] (DclAt (.cells #[.slice sa ss.length sc,.slice ea es.length ec,.int .i64 root] 30 (0,0)) (fun q:CRec × Value=>q.1.name) es.length (es.map fun q=>q.1.name) ss w) (fun _ i _=>ss.length-(intOf i).toNat)
    case atStart=>exact ⟨0,Nat.zero_le _,rfl,HB.out,HX.out,by rw [Nat.zero_add];simpa using HOWN2.out⟩
    case round =>
     clear HB HX p0 p1 p2 HOWN2
     obtain ⟨k,hk,rfl,hb,hbox,hown⟩:=hrel
     have hlt:=blk_lt hbox
     have HB:=Lib.hid hb
     have HX:=Lib.hid hbox
     have HOWN:=Lib.hid hown
     obtain ⟨nva,nvc,rfl⟩:=ownsRow_form hown
     by_cases hkl:k<ss.length
     · obtain ⟨g,cc,hv,hcc,hg,hcell⟩:=row_el crecCells 2 (fun _=>rfl) (row_keep hb HH.out.structs) k hkl
       obtain ⟨rfl,rfl⟩:=slice_inj hv
       obtain ⟨na,nc,hnv⟩:=ownsRow_form (HH.out.fields _ (List.getElem_mem hkl))
       have x0:wr.cell? ⟨g,k * 2,none⟩=some (.string ss[k].1.name):=hcell 0 (by omega)
       have x1:wr.cell? ⟨g,k * 2+1,none⟩=some (.slice na ss[k].1.fields.length nc):=by rw [←hnv];exact hcell 1 (by omega)
       have HTK:=Lib.hid (take_snoc_map (fun q:CRec × Value=>q.1.name) ss k hkl)
       generalize ss[k]=q at *
       have HBT:=Lib.hid ((Below.refl wr.heap.size wr).alloc (Nat.le_refl _) (.cells #[.string q.1.name,.slice na q.1.fields.length nc] 52))
       have HTN:=Lib.hid (heap_alloc_new wr (.cells #[.string q.1.name,.slice na q.1.fields.length nc] 52))
       have hki:(k:Int)<ss.length:=by omega
       clear hb hbox hown hv hcell hnv
       go_upto_region 10 with (fail)
       generalize wr.alloc (.cells #[.string q.1.name,.slice na q.1.fields.length nc] 52)=Wt at *
       clear x0 x1
       obtain ⟨_,z0,z1,_⟩:=blk2 HTN.out
       have hnt:wr.heap.size<Wt.heap.size:=blk_lt HTN.out
       go_wp2_with (at_builtin;refine wpList_append_own _ rfl (.tmp 28) (.tmp 31) 53 rfl (w.heap.size+1) 9 i0 _ 1 16 Tryz.underlying53 I1.out I2.out I3.out I4.out rfl (by decide) _ (k+es.length) (strsCells ((es.map fun q=>q.1.name)++(ss.take k).map fun q=>q.1.name)) rfl (row_keep (HBT.out.trans ((Below.refl _ _).alloc HBT.out.size _)) HOWN.out) _ 1 1 [.string q.1.name] rfl rfl (World.news_of_block (heap_alloc_new _ _)) (by intro u hu;rw [List.mem_singleton.1 hu];rfl) (by unfold maxLen;omega) (by omega) (by simp;omega) ?_;intro v4 W8 hown4 hg4 hx;clear hx;obtain ⟨a4,m4,rfl⟩:=ownsRow_form hown4;obtain ⟨s1,s2⟩:=dcl_app HB.out HX.out HOWN.out (HBT.out.trans ((Below.refl _ _).alloc HBT.out.size _)) hg4;have S1:=Lib.hid s1;have S2:=Lib.hid s2;have S3:=Lib.hid hown4;clear s1 s2 hown4 hg4)
       go_roundw
       case rel=>exact ⟨k+1,by omega,by go_num,S1.out,S2.out,by rw [HTK.out,←List.append_assoc,strsCells_snoc,Nat.succ_add_eq_add_succ k];exact S3.out⟩
       case measure=>simp [intOf];omega
     · obtain rfl:k=ss.length:=by omega
       have hown:=HOWN.out
       rw [List.take_length] at hown
       have HOWN2:=Lib.hid hown
       clear hb hbox hown HOWN
       go_wp2
       go_ret
       exact ⟨_,rfl,ownsRow_base HOWN2.out (Nat.le_succ w.heap.size),HB.out⟩
end Go.Proofs.YtokhnoogkdlidaaGreatDoor
