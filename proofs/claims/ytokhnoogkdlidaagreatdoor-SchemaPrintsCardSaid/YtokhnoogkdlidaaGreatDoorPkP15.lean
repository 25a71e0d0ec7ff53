/-
  Plain facts on the plain Make: the names' kinds and places, how many fields. No run of the program stands in this text. Conditions: those that each theorem names.
-/
import Derived.Test.YtokhnoogkdlidaaGreatDoorPkP13
import Derived.Laws.AppendOwn
namespace Go.Proofs.YtokhnoogkdlidaaGreatDoor
open Go.ChangeShapes Go.WideShapes Go.ChangeAt Go.RowKit Go.Shelf
def fieldCells (f:RField):List Value:=[.string (strOfNums f.name),.int .i64 f.place,.string (strOfNums f.ty.name),.int .i64 f.ty.lists,.int .i64 f.ty.place,.int .i64 f.dflt.kind,.string (strOfNums f.dflt.text),.int .i64 f.dflt.place]
def fieldsCells (l:List RField):List Value:=l.flatMap fieldCells
theorem fieldsCells_snoc (l:List RField)(t:RField):fieldsCells (l++[t])=fieldsCells l++fieldCells t:=by
 simp [fieldsCells]
theorem fieldCells_one (f:RField):∀ u ∈ fieldCells f,u.oneCell'=true:=by
 intro u hu
 simp [fieldCells] at hu
 rcases hu with rfl|rfl|rfl|rfl|rfl|rfl|rfl|rfl<;>rfl
theorem field_info:(Tryz.prog.info? 114).map (fun i=>(i.zero,i.size,i.bytes))=some (some (.agg #[.string ⟨#[]⟩,.int .i64 0,.string ⟨#[]⟩,.int .i64 0,.int .i64 0,.int .i64 0,.string ⟨#[]⟩,.int .i64 0]),8,88):=by kernel_rfl
theorem fieldCells_new (W:World)(f:RField):∀ j u,(fieldCells f)[j]?=some u→(W.alloc (.cells #[.string (strOfNums f.name),.int .i64 f.place,.string (strOfNums f.ty.name),.int .i64 f.ty.lists,.int .i64 f.ty.place,.int .i64 f.dflt.kind,.string (strOfNums f.dflt.text),.int .i64 f.dflt.place] 114)).cell? ((⟨W.heap.size,0,none⟩:Addr).add j)=some u:=by
 intro j u hu
 rw [add_plain,Nat.zero_add,cell_of_row _ _ _ _ _ (0,0) (heap_alloc_new W _)]
 simpa [fieldCells] using hu
theorem Rd.deep {w W:World}{R g c B:Nat}{l r:List Tok}{F:Int × Nat}(h:Rd w R g c l r F)(hb:Below B w W)(hR:R<B)(hg:g<B):Rd W R g c l r F:=
 ⟨(hb.block R hR).trans h.blk,h.suf,h.len,Nat.lt_of_lt_of_le h.glt hb.size,h.gne,fun k hk=>(hb.cell (p:=⟨g,k,none⟩) hg).trans (h.cells k hk),h.cap,h.ends,h.byt⟩
structure FieldsAt (R g c:Nat)(l:List Tok)(Bx V:Nat)(w0:World)(W:World)(acc:List RField)(r:List Tok):Prop where
 rd:Rd W R g c l r (0,0)
 box:W.heap[Bx]?=some (.cells #[.pointer (some ⟨R,0,none⟩)] 121 (0,0))
 row:∃ v,W.heap[V]?=some (.cells #[v] 100 (0,0))∧W.ownsRow (V+1) 114 8 v acc.length (fieldsCells acc)
 exc:Exc R V w0 W
 len:acc.length+r.length≤l.length
def FaultAt (R g c:Nat)(l:List Tok)(V:Nat)(e:TypeId)(w0:World)(W:World)(F:Int × Nat):Prop:=
 (∃ r,Rd W R g c l r F)∧(∃ a n c',W.heap[V]?=some (.cells #[.slice a n c'] e (0,0)))∧Exc R V w0 W
theorem exc_row {R V:Nat}{W W':World}{v:Value}{e:TypeId}{n:Nat}{xs:List Value}{size:Nat}(h:W.ownsRow (V+1) e size v n xs)(hR:R<V)(hx:Exc R W.heap.size W W'):W'.ownsRow (V+1) e size v n xs:=
 hx.ownsRow h (fun e=>by have:=(ownsRow_lt h R e).1;omega)
theorem grown_keeps {W W':World}{o o':Obj}{base V:Nat}{e:TypeId}{size:Nat}{v:Value}{n:Nat}{xs:List Value}(hg:(W.alloc o).grownBy W' v.ownBlock)(ho:W.ownsRow base e size v n xs)(hV:V<base)(hv:W.heap[V]?=some o'):W'.heap[V]?=some o':=
 (hg.block V (by have:=blk_lt hv;simp;omega) (fun e=>by have:=(ownsRow_lt ho V e.symm).1;omega)).trans (blk_alloc hv o)
theorem blk1 {w:World}{g:Nat}{x:Value}{t:TypeId}(h:w.heap[g]?=some (.cells #[x] t (0,0))):g<w.heap.size∧w.cell? ⟨g,0,none⟩=some x∧w.frozen? ⟨g,0,none⟩=false:=
 ⟨blk_lt h,(blk_cell h 0).trans rfl,blk_frozen h 0⟩
theorem FieldsAt.stay {R g c:Nat}{l:List Tok}{Bx V:Nat}{w0 W W':World}{acc:List RField}{r r':List Tok}(hR:R<V)(hBx:Bx≠R)(hw:V≤w0.heap.size)(h:FieldsAt R g c l Bx V w0 W acc r)(hr:Rd W' R g c l r' (0,0))(hx:Exc R W.heap.size W W')(hl:r'.length≤r.length):FieldsAt R g c l Bx V w0 W' acc r':=by
 obtain ⟨v,hv,ho⟩:=h.row
 exact ⟨hr,blk_exc h.box hx (blk_lt h.box) hBx,⟨v,blk_exc hv hx (blk_lt hv) (by omega),exc_row ho hR hx⟩,h.exc.thenB hw hx,by have:=h.len;omega⟩
theorem FieldsAt.fails {R g c:Nat}{l:List Tok}{Bx V:Nat}{w0 W W':World}{acc:List RField}{r r':List Tok}{F:Int × Nat}(hR:R<V)(hw:V≤w0.heap.size)(h:FieldsAt R g c l Bx V w0 W acc r)(hr:Rd W' R g c l r' F)(hx:Exc R W.heap.size W W'):FaultAt R g c l V 100 w0 W' F:=by
 obtain ⟨v,hv,ho⟩:=h.row
 obtain ⟨a,c',rfl⟩:=ownsRow_form ho
 exact ⟨⟨r',hr⟩,⟨a,_,c',blk_exc hv hx (blk_lt hv) (by omega)⟩,h.exc.thenB hw hx⟩
set_option maxRecDepth 100000 in
set_option maxHeartbeats 2000000 in
theorem record1_any {R g c:Nat}{l:List Tok}{Bx V:Nat}{w0:World}(hR:R<V)(hg:g<V)(hBx:Bx<V)(hne:Bx≠R)(hw:V≤w0.heap.size)(hl:l.length≤2048)(W:World)(acc:List RField)(r:List Tok)(h:FieldsAt R g c l Bx V w0 W acc r) :
  Calls Tryz.prog 127 #[.pointer (some ⟨Bx,0,none⟩),.pointer (some ⟨V,0,none⟩)] W (StepPost (FieldsAt R g c l Bx V w0) (FaultAt R g c l V 100 w0) (fieldR r) acc):=by
 have HI:=Lib.hid h
 have hb0:W.cell? ⟨Bx,0,none⟩=some (.pointer (some ⟨R,0,none⟩)):=(blk_cell h.box 0).trans rfl
 have hlen:=h.len
 have HE:=Lib.hid (field_eats h.rd.ends)
 obtain ⟨i0,hi0,hz0,hz1,hz2⟩:=info_parts field_info
 have I1:=Lib.hid hi0
 have I2:=Lib.hid hz0
 have I3:=Lib.hid hz1
 have I4:=Lib.hid hz2
 clear h hi0 hz0 hz1 hz2
 go_enter Tryz.func127,Tryz.ntmps127
 go_wp2_with fail
 refine (field_any _ R g c l r HI.out.rd).mono ?_
 rintro e W1 ⟨a,r1,F1,ok1,rfl,hr1,hx1,hs1⟩
 unfold fieldV
 obtain ⟨v,hv,ho⟩:=HI.out.row
 have HX1:=Lib.hid (HI.out.exc.thenB hw hx1)
 have HV1:=Lib.hid (blk_exc hv hx1 (blk_lt hv) (by omega))
 have HO1:=Lib.hid (exc_row ho hR hx1)
 have HB1:=Lib.hid (blk_exc HI.out.box hx1 (blk_lt HI.out.box) hne)
 have HR1:=Lib.hid hr1
 have HS1:=Lib.hid hs1
 clear hv ho hx1 hr1 hs1
 go_upto_region 2 with (fail)
 have HR2:=Lib.hid (HR1.out.alloc (.cells #[.string (strOfNums a.name),.int .i64 a.place,.string (strOfNums a.ty.name),.int .i64 a.ty.lists,.int .i64 a.ty.place,.int .i64 a.dflt.kind,.string (strOfNums a.dflt.text),.int .i64 a.dflt.place] 114))
 have HX2:=Lib.hid (HX1.out.alloc (Nat.le_trans hw HX1.out.size) (.cells #[.string (strOfNums a.name),.int .i64 a.place,.string (strOfNums a.ty.name),.int .i64 a.ty.lists,.int .i64 a.ty.place,.int .i64 a.dflt.kind,.string (strOfNums a.dflt.text),.int .i64 a.dflt.place] 114))
 have HV2:=Lib.hid (blk_alloc HV1.out (.cells #[.string (strOfNums a.name),.int .i64 a.place,.string (strOfNums a.ty.name),.int .i64 a.ty.lists,.int .i64 a.ty.place,.int .i64 a.dflt.kind,.string (strOfNums a.dflt.text),.int .i64 a.dflt.place] 114))
 have HB2:=Lib.hid (blk_alloc HB1.out (.cells #[.string (strOfNums a.name),.int .i64 a.place,.string (strOfNums a.ty.name),.int .i64 a.ty.lists,.int .i64 a.ty.place,.int .i64 a.dflt.kind,.string (strOfNums a.dflt.text),.int .i64 a.dflt.place] 114))
 have HF2:=Lib.hid (heap_alloc_new W1 (.cells #[.string (strOfNums a.name),.int .i64 a.place,.string (strOfNums a.ty.name),.int .i64 a.ty.lists,.int .i64 a.ty.place,.int .i64 a.dflt.kind,.string (strOfNums a.dflt.text),.int .i64 a.dflt.place] 114))
 have HO2:=Lib.hid (exc_row HO1.out hR ((Exc.refl _ _ _).alloc (Nat.le_refl _) (.cells #[.string (strOfNums a.name),.int .i64 a.place,.string (strOfNums a.ty.name),.int .i64 a.ty.lists,.int .i64 a.ty.place,.int .i64 a.dflt.kind,.string (strOfNums a.dflt.text),.int .i64 a.dflt.place] 114)))
 have hVlt:V<W1.heap.size:=blk_lt HV1.out
 clear HR1 HX1 HV1 HB1 HO1
 generalize hW2:W1.alloc (.cells #[.string (strOfNums a.name),.int .i64 a.place,.string (strOfNums a.ty.name),.int .i64 a.ty.lists,.int .i64 a.ty.place,.int .i64 a.dflt.kind,.string (strOfNums a.dflt.text),.int .i64 a.dflt.place] 114)=W2 at *
 clear hW2
 generalize W1.heap.size=BF at *
 obtain ⟨hf2,⟨f0,f1,f2,f3,f4,f5,f6,f7⟩,_⟩:=blk8 HF2.out
 have v0:W2.cell? ⟨V,0,none⟩=some v:=(blk_cell HV2.out 0).trans rfl
 obtain ⟨va,vc,rfl⟩:=ownsRow_form HO2.out
 go_wp2_with (at_builtin;refine wpList_append_own _ rfl (.tmp 10) (.tmp 12) 100 rfl (V+1) 114 i0 _ 8 88 Tryz.underlying100 I1.out I2.out I3.out I4.out rfl (by decide) _ acc.length (fieldsCells acc) rfl (exc_row HO2.out hR ((Exc.refl _ _ _).alloc (Nat.le_refl _) (.cells #[.string (strOfNums a.name),.int .i64 a.place,.string (strOfNums a.ty.name),.int .i64 a.ty.lists,.int .i64 a.ty.place,.int .i64 a.dflt.kind,.string (strOfNums a.dflt.text),.int .i64 a.dflt.place] 114))) ⟨W2.heap.size,0,none⟩ 1 1 (fieldCells a) rfl rfl (fieldCells_new W2 a) (fieldCells_one a) (by unfold maxLen;omega) (by omega) (by simp;omega) ?_;intro v4 W4 hown4 hg4 hx;clear hx;have HG4:=Lib.hid hg4;obtain ⟨a4,c4,rfl⟩:=ownsRow_form hown4;have HO4:=Lib.hid hown4;have HV4:=Lib.hid (grown_keeps hg4 HO2.out (Nat.lt_succ_self V) HV2.out);obtain ⟨hv4,x4,y4⟩:=blk1 HV4.out;clear hown4 hg4)
 have hb:Below V W2 (W4.setCell ⟨V,0,none⟩ (.slice a4 (acc.length+1) c4)):=(((Below.refl V W2).alloc (by omega) _).grown HG4.out (by simp;omega) (fun k hk=>by have:=(ownsRow_lt HO2.out k hk).1;omega)).setCell (Nat.le_refl _) _
 have hV5:(W4.setCell ⟨V,0,none⟩ (.slice a4 (acc.length+1) c4)).heap[V]?=some (.cells #[.slice a4 (acc.length+1) c4] 100 (0,0)):=(blk_set HV4.out 0 _).trans rfl
 have hO5:=ownsRow_setCell_below HO4.out (a:=⟨V,0,none⟩) (Nat.lt_succ_self V) (.slice a4 (acc.length+1) c4)
 go_ret
 generalize fieldR r=q at *
 obtain ⟨a',r'⟩|⟨cc,pp⟩:=q
 · obtain ⟨rfl,rfl,rfl,rfl⟩:=HS1.out
   have h1:=(HE.out a r1 rfl).2
   exact ⟨rfl,HR2.out.deep hb hR hg,blk_below HB2.out hb hBx,⟨_,hV5,by rw [fieldsCells_snoc,List.length_append];exact hO5⟩,HX2.out.trans (.of_below hb),by simp;omega⟩
 · obtain ⟨rfl,rfl⟩:=HS1.out
   exact ⟨rfl,⟨r1,HR2.out.deep hb hR hg⟩,⟨_,_,_,hV5⟩,HX2.out.trans (.of_below hb)⟩
end Go.Proofs.YtokhnoogkdlidaaGreatDoor
namespace Go.Proofs.YtokhnoogkdlidaaGreatDoor
open Go.ChangeShapes Go.WideShapes Go.ChangeAt Go.RowKit Go.Shelf
def RecPost (R g c:Nat)(l:List Tok)(w:World)(x:Res RRec)(e:Ending)(w':World):Prop:=
 match x with
 | .ok s r'=>∃ v,e=.returned (.tuple #[.agg #[.string (strOfNums s.name),.int .i64 s.place,v],.bool true])∧w'.ownsRow w.heap.size 114 8 v s.fields.length (fieldsCells s.fields)∧Rd w' R g c l r' (0,0)∧Exc R w.heap.size w w'
 | .no cc p=>∃ (S:ByteArray) (n:Int) (a:Option Addr) (m c':Nat) (r':List Tok),e=.returned (.tuple #[.agg #[.string S,.int .i64 n,.slice a m c'],.bool false])∧Rd w' R g c l r' (cc,p)∧Exc R w.heap.size w w'
theorem fields_keeper {R g c:Nat}{l:List Tok}{Bx V:Nat}{w0:World}(hR:R<V)(hg:g<V)(hBx:Bx<V)(hne:Bx≠R)(hw:V≤w0.heap.size)(hl:l.length≤2048) :
  Keeper R g c l 127 #[.pointer (some ⟨Bx,0,none⟩),.pointer (some ⟨V,0,none⟩)] (FieldsAt R g c l Bx V w0) (FaultAt R g c l V 100 w0) fieldR where
 enters:=enters_of Tryz.func127 (by kernel_rfl) rfl
 rd:=fun _ _ _ h=>h.rd
 stay:=fun _ _ _ _ _ h hr hx hl'=>h.stay hR hne hw hr hx hl'
 fails:=fun _ _ _ _ _ _ h hr hx=>h.fails hR hw hr hx
 eats:=fun _ h=>field_eats h
 gives:=fun W acc r h=>record1_any hR hg hBx hne hw hl W acc r h
set_option maxRecDepth 100000 in
set_option maxHeartbeats 2000000 in
theorem record_any (w:World)(R g c:Nat)(l r:List Tok)(hl:l.length≤2048)(h:Rd w R g c l r (0,0)) :
  Calls Tryz.prog 105 #[.pointer (some ⟨R,0,none⟩)] w (RecPost R g c l w (recR r)):=by
 have hR:=blk_lt h.blk
 have hg:=h.glt
 have HT:Hid (recR r=(nameR r).bind fun t r1=>((wantR [123] r1).bind fun _ r2=>fieldsL [] r2).bind fun fs r3=>.ok ⟨t.text,t.place,fs⟩ r3):=by
  unfold recR
  refine Lib.hid ?_
  cases nameR r with
  | no c p=>rfl
  | ok a r1 =>
   simp only [bind_ok]
   cases wantR [123] r1 with
   | no c p=>rfl
   | ok b r2=>rfl
 have hsz:w.heap.size+2≤((w.alloc (.cells #[.pointer (some ⟨R,0,none⟩)] 121)).alloc (.cells #[.string ⟨#[]⟩,.int .i64 0,.slice none 0 0] 102)).heap.size:=by rw [World.size_alloc,World.size_alloc];omega
 have hb0:Below w.heap.size w ((w.alloc (.cells #[.pointer (some ⟨R,0,none⟩)] 121)).alloc (.cells #[.string ⟨#[]⟩,.int .i64 0,.slice none 0 0] 102)):=((Below.refl _ _).alloc (Nat.le_refl _) _).alloc (by simp) _
 have HX0:=Lib.hid (Exc.of_below (R:=R) hb0)
 have HR0:=Lib.hid (h.keep hb0)
 have HB0:=Lib.hid (blk_alloc (heap_alloc_new w (.cells #[.pointer (some ⟨R,0,none⟩)] 121)) (.cells #[.string ⟨#[]⟩,.int .i64 0,.slice none 0 0] 102))
 have HZ0:=Lib.hid (show ((w.alloc (.cells #[.pointer (some ⟨R,0,none⟩)] 121)).alloc (.cells #[.string ⟨#[]⟩,.int .i64 0,.slice none 0 0] 102)).heap[w.heap.size+1]?=some (.cells #[.string ⟨#[]⟩,.int .i64 0,.slice none 0 0] 102 (0,0)) from by
  have:=heap_alloc_new (w.alloc (.cells #[.pointer (some ⟨R,0,none⟩)] 121)) (.cells #[.string ⟨#[]⟩,.int .i64 0,.slice none 0 0] 102)
  rwa [World.size_alloc] at this)
 clear h hb0
 go_enter Tryz.func105,Tryz.ntmps105
 go_upto_region 1 with (fail)
 generalize hW0:(w.alloc (.cells #[.pointer (some ⟨R,0,none⟩)] 121)).alloc (.cells #[.string ⟨#[]⟩,.int .i64 0,.slice none 0 0] 102)=W0 at *
 clear hW0
 have b0:W0.cell? ⟨w.heap.size,0,none⟩=some (.pointer (some ⟨R,0,none⟩)):=(blk_cell HB0.out 0).trans rfl
 go_wp2_with fail
 refine (name_any _ R g c l r HR0.out).mono ?_
 rintro e W1 ⟨a1,r1,F1,ok1,rfl,hr1,hx1,hs1⟩
 have hs01:=hx1.size
 have HX1:=Lib.hid (HX0.out.thenB (Nat.le_refl _) hx1)
 have HZ1:=Lib.hid (blk_exc HZ0.out hx1 (blk_lt HZ0.out) (by omega))
 have HB1:=Lib.hid (blk_exc HB0.out hx1 (blk_lt HB0.out) (by omega))
 have HR1:=Lib.hid hr1
 have HS1:=Lib.hid hs1
 clear hr1 hx1 hs1 b0 HX0 HR0 HB0 HZ0
 unfold tokV
 go_upto_region 2 with (fail)
 have HR2:=Lib.hid (HR1.out.alloc (.cells #[.int .i64 a1.kind,.string (strOfNums a1.text),.int .i64 a1.place] 97))
 have HX2:=Lib.hid (HX1.out.alloc HX1.out.size (.cells #[.int .i64 a1.kind,.string (strOfNums a1.text),.int .i64 a1.place] 97))
 have HB2:=Lib.hid (blk_alloc HB1.out (.cells #[.int .i64 a1.kind,.string (strOfNums a1.text),.int .i64 a1.place] 97))
 have HZ2:=Lib.hid (blk_alloc HZ1.out (.cells #[.int .i64 a1.kind,.string (strOfNums a1.text),.int .i64 a1.place] 97))
 have HT2:=Lib.hid (heap_alloc_new W1 (.cells #[.int .i64 a1.kind,.string (strOfNums a1.text),.int .i64 a1.place] 97))
 have hs2:W1.heap.size+1≤(W1.alloc (.cells #[.int .i64 a1.kind,.string (strOfNums a1.text),.int .i64 a1.place] 97)).heap.size:=Nat.le_of_eq (World.size_alloc ..).symm
 clear HR1 HX1 HB1 HZ1
 generalize hW2:W1.alloc (.cells #[.int .i64 a1.kind,.string (strOfNums a1.text),.int .i64 a1.place] 97)=W2 at *
 clear hW2
 generalize hBT:W1.heap.size=BT at *
 clear hBT
 generalize nameR r=q at *
 obtain ⟨a',r'⟩|⟨cc,pp⟩:=q
 · obtain ⟨rfl,rfl,rfl,rfl⟩:=HS1.out
   have HT1:=Lib.hid (HT.out.trans (bind_ok _ _ _))
   clear HT HS1
   go_upto_region 5 with (fail)
   have HR3:=Lib.hid (HR2.out.alloc (.cells #[.slice none 0 0] 100))
   have HX3:=Lib.hid (HX2.out.alloc HX2.out.size (.cells #[.slice none 0 0] 100))
   have HB3:=Lib.hid (blk_alloc HB2.out (.cells #[.slice none 0 0] 100))
   have HZ3:=Lib.hid (blk_alloc HZ2.out (.cells #[.slice none 0 0] 100))
   have HT3:=Lib.hid (blk_alloc HT2.out (.cells #[.slice none 0 0] 100))
   have HV3:=Lib.hid (heap_alloc_new W2 (.cells #[.slice none 0 0] 100))
   have hs3:W2.heap.size+1≤(W2.alloc (.cells #[.slice none 0 0] 100)).heap.size:=Nat.le_of_eq (World.size_alloc ..).symm
   clear HR2 HX2 HB2 HZ2 HT2
   generalize hW3:W2.alloc (.cells #[.slice none 0 0] 100)=W3 at *
   clear hW3
   generalize hV:W2.heap.size=V at *
   clear hV
   have b3:W3.cell? ⟨w.heap.size,0,none⟩=some (.pointer (some ⟨R,0,none⟩)):=(blk_cell HB3.out 0).trans rfl
   have HBR:=Lib.hid (braced_any (R:=R) (g:=g) (c:=c) (l:=l) (I:=FieldsAt R g c l w.heap.size V W3) (J:=FaultAt R g c l V 100 W3) (step:=fieldR) fieldsL (fun acc r h=>fieldsL_step h) (fields_keeper (R:=R) (g:=g) (c:=c) (l:=l) (Bx:=w.heap.size) (V:=V) (w0:=W3) (by omega) (by omega) (by omega) (by omega) (by omega) hl) [] r1 W3 ⟨HR3.out,HB3.out,⟨_,HV3.out,World.ownsRow_nil _ _ _ _⟩,Exc.refl _ _ _,by have:=HR3.out.len;simpa using this⟩)
   go_wp2_with fail
   refine HBR.out.mono ?_
   rintro e W4 hp
   have HP:=Lib.hid hp
   clear hp b3
   generalize ((wantR [123] r1).bind fun _ r2=>fieldsL [] r2)=q at *
   obtain ⟨fs,r4⟩|⟨cc,pp⟩:=q
   · obtain ⟨rfl,hi⟩:=HP.out
     have HI:=Lib.hid hi
     obtain ⟨v,hv,ho⟩:=hi.row
     obtain ⟨va,vc,rfl⟩:=ownsRow_form ho
     have HO:=Lib.hid ho
     have HZ4:=Lib.hid (blk_exc HZ3.out hi.exc (by omega) (by omega))
     obtain ⟨ht4,t0,t1,t2,_⟩:=blk3 (blk_exc HT3.out hi.exc (by omega) (by omega))
     obtain ⟨hz4,z0,z1,z2,y0,y1,y2⟩:=blk3 HZ4.out
     have v4:W4.cell? ⟨V,0,none⟩=some _:=(blk_cell hv 0).trans rfl
     have HE:=Lib.hid (HT1.out.trans (bind_ok _ _ _))
     clear hi hv ho HP
     go_wp2
     refine post_gen (fun Wf=>Wf.heap[w.heap.size+1]?=some (.cells #[.string (strOfNums a1.text),.int .i64 a1.place,.slice va fs.length vc] 102 (0,0))∧Wf.ownsRow w.heap.size 114 8 (.slice va fs.length vc) fs.length (fieldsCells fs)∧Rd Wf R g c l r4 (0,0)∧Exc R w.heap.size w Wf) ⟨?_,?_,?_,?_⟩ ?_
     · exact blk_set3 HZ4.out _ _ _
     · exact ownsRow_base (ownsRow_setCell_below (ownsRow_setCell_below (ownsRow_setCell_below HO.out (a:=⟨w.heap.size+1,0,none⟩) (by show w.heap.size+1<_;omega) _) (a:=⟨w.heap.size+1,1,none⟩) (by show w.heap.size+1<_;omega) _) (a:=⟨w.heap.size+1,2,none⟩) (by show w.heap.size+1<_;omega) _) (by omega)
     · exact HI.out.rd.set3 (by omega) (by omega) _ _ _
     · exact (HX3.out.trans (HI.out.exc.mono (by omega))).set3 (by omega) _ _ _
     · rintro Wf ⟨e1,e2,e3,e4⟩
       obtain ⟨_,c0,c1,c2,_⟩:=blk3 e1
       rw [HE.out]
       exact bodyPost_ret (v:=.tuple #[.agg #[.string (strOfNums a1.text),.int .i64 a1.place,.slice va fs.length vc],.bool true]) (by simp [results,Tryz.results105,go_sem,c0,c1,c2]) rfl ⟨_,rfl,e2,e3,e4⟩
   · obtain ⟨rfl,⟨r4,hr4⟩,⟨va,vn,vc,hv⟩,hx4⟩:=HP.out
     have HR4:=Lib.hid hr4
     have HX4:=Lib.hid hx4
     have HZ4:=Lib.hid (blk_exc HZ3.out hx4 (by omega) (by omega))
     obtain ⟨ht4,t0,t1,t2,_⟩:=blk3 (blk_exc HT3.out hx4 (by omega) (by omega))
     obtain ⟨hz4,z0,z1,z2,y0,y1,y2⟩:=blk3 HZ4.out
     have v4:W4.cell? ⟨V,0,none⟩=some _:=(blk_cell hv 0).trans rfl
     have HE:=Lib.hid (HT1.out.trans (bind_no _ _ _))
     clear hr4 hx4 hv HP
     go_wp2
     refine post_gen (fun Wf=>Wf.heap[w.heap.size+1]?=some (.cells #[.string (strOfNums a1.text),.int .i64 a1.place,.slice va vn vc] 102 (0,0))∧Rd Wf R g c l r4 (cc,pp)∧Exc R w.heap.size w Wf) ⟨?_,?_,?_⟩ ?_
     · exact blk_set3 HZ4.out _ _ _
     · exact HR4.out.set3 (by omega) (by omega) _ _ _
     · exact (HX3.out.trans (HX4.out.mono (by omega))).set3 (by omega) _ _ _
     · rintro Wf ⟨e1,e3,e4⟩
       obtain ⟨_,c0,c1,c2,_⟩:=blk3 e1
       rw [HE.out]
       exact bodyPost_ret (v:=.tuple #[.agg #[.string (strOfNums a1.text),.int .i64 a1.place,.slice va vn vc],.bool false]) (by simp [results,Tryz.results105,go_sem,c0,c1,c2]) rfl ⟨_,_,_,_,_,_,rfl,e3,e4⟩
 · obtain ⟨rfl,rfl⟩:=HS1.out
   have HE:=Lib.hid (HT.out.trans (bind_no _ _ _))
   obtain ⟨hz4,z0,z1,z2,y0,y1,y2⟩:=blk3 HZ2.out
   go_wp2
   refine post_gen (fun Wf=>Wf.heap[w.heap.size+1]?=some (.cells #[.string ⟨#[]⟩,.int .i64 0,.slice none 0 0] 102 (0,0))∧Rd Wf R g c l r1 (cc,pp)∧Exc R w.heap.size w Wf) ⟨?_,?_,?_⟩ ?_
   · exact blk_set3 HZ2.out _ _ _
   · exact HR2.out.set3 (by omega) (by omega) _ _ _
   · exact HX2.out.set3 (by omega) _ _ _
   · rintro Wf ⟨e1,e3,e4⟩
     obtain ⟨_,c0,c1,c2,_⟩:=blk3 e1
     rw [HE.out]
     exact bodyPost_ret (v:=.tuple #[.agg #[.string ⟨#[]⟩,.int .i64 0,.slice none 0 0],.bool false]) (by simp [results,Tryz.results105,go_sem,c0,c1,c2]) rfl ⟨_,_,_,_,_,_,rfl,e3,e4⟩
end Go.Proofs.YtokhnoogkdlidaaGreatDoor
namespace Go.Proofs.YtokhnoogkdlidaaGreatDoor
open Go.ChangeShapes Go.WideShapes Go.ChangeAt Go.RowKit Go.Shelf
def valueNR (r:List Tok):Res Tok:=(nameR r).bind fun t r1=>(commaR r1).bind fun _ r2=>.ok t r2
theorem valueN_eats {r:List Tok}(h:Ends r):Eats r (valueNR r):=
 eats_bind (name_eats h) fun _ _ h1=>keeps_bind (comma_keeps h1) fun _ _ h2=>keeps_ok _ h2
theorem namesL_step2 {acc:List Tok}{r:List Tok}(h:Ends r):namesL acc r=if isT 4 [125] r=true then .ok acc r.tail else (valueNR r).bind fun x r'=>namesL (acc++[x]) r':=by
 rw [namesL_step h]
 split
 · rfl
 · unfold valueNR
   cases nameR r with
   | no c p=>rfl
   | ok t r1 =>
    simp only [bind_ok]
    cases commaR r1 with
    | no c p=>rfl
    | ok b r2=>rfl
structure NamesAt (R g c:Nat)(l:List Tok)(Bx V:Nat)(w0:World)(W:World)(acc:List Tok)(r:List Tok):Prop where
 rd:Rd W R g c l r (0,0)
 box:W.heap[Bx]?=some (.cells #[.pointer (some ⟨R,0,none⟩)] 121 (0,0))
 row:∃ v,W.heap[V]?=some (.cells #[v] 66 (0,0))∧W.ownsRow (V+1) 97 3 v acc.length (toksCells acc)
 exc:Exc R V w0 W
 len:acc.length+r.length≤l.length
theorem NamesAt.stay {R g c:Nat}{l:List Tok}{Bx V:Nat}{w0 W W':World}{acc:List Tok}{r r':List Tok}(hR:R<V)(hBx:Bx≠R)(hw:V≤w0.heap.size)(h:NamesAt R g c l Bx V w0 W acc r)(hr:Rd W' R g c l r' (0,0))(hx:Exc R W.heap.size W W')(hl:r'.length≤r.length):NamesAt R g c l Bx V w0 W' acc r':=by
 obtain ⟨v,hv,ho⟩:=h.row
 exact ⟨hr,blk_exc h.box hx (blk_lt h.box) hBx,⟨v,blk_exc hv hx (blk_lt hv) (by omega),exc_row ho hR hx⟩,h.exc.thenB hw hx,by have:=h.len;omega⟩
theorem NamesAt.fails {R g c:Nat}{l:List Tok}{Bx V:Nat}{w0 W W':World}{acc:List Tok}{r r':List Tok}{F:Int × Nat}(hR:R<V)(hw:V≤w0.heap.size)(h:NamesAt R g c l Bx V w0 W acc r)(hr:Rd W' R g c l r' F)(hx:Exc R W.heap.size W W'):FaultAt R g c l V 66 w0 W' F:=by
 obtain ⟨v,hv,ho⟩:=h.row
 obtain ⟨a,c',rfl⟩:=ownsRow_form ho
 exact ⟨⟨r',hr⟩,⟨a,_,c',blk_exc hv hx (blk_lt hv) (by omega)⟩,h.exc.thenB hw hx⟩
set_option maxRecDepth 100000 in
set_option maxHeartbeats 2000000 in
theorem choice1_any {R g c:Nat}{l:List Tok}{Bx V:Nat}{w0:World}(hR:R<V)(hg:g<V)(hBx:Bx<V)(hne:Bx≠R)(hw:V≤w0.heap.size)(hl:l.length≤2048)(W:World)(acc:List Tok)(r:List Tok)(h:NamesAt R g c l Bx V w0 W acc r) :
  Calls Tryz.prog 129 #[.pointer (some ⟨Bx,0,none⟩),.pointer (some ⟨V,0,none⟩)] W (StepPost (NamesAt R g c l Bx V w0) (FaultAt R g c l V 66 w0) (valueNR r) acc):=by
 have HI:=Lib.hid h
 have hb0:W.cell? ⟨Bx,0,none⟩=some (.pointer (some ⟨R,0,none⟩)):=(blk_cell h.box 0).trans rfl
 have hlen:=h.len
 have HE:=Lib.hid (name_eats h.rd.ends)
 have HV:Hid (valueNR r=(nameR r).bind fun t r1=>(commaR r1).bind fun _ r2=>.ok t r2):=Lib.hid rfl
 obtain ⟨i0,hi0,hz0,hz1,hz2⟩:=info_parts tok_info
 have I1:=Lib.hid hi0
 have I2:=Lib.hid hz0
 have I3:=Lib.hid hz1
 have I4:=Lib.hid hz2
 clear h hi0 hz0 hz1 hz2
 go_enter Tryz.func129,Tryz.ntmps129
 go_wp2_with fail
 refine (name_any _ R g c l r HI.out.rd).mono ?_
 rintro e W1 ⟨a,r1,F1,ok1,rfl,hr1,hx1,hs1⟩
 unfold tokV
 obtain ⟨v,hv,ho⟩:=HI.out.row
 have HX1:=Lib.hid (HI.out.exc.thenB hw hx1)
 have HV1:=Lib.hid (blk_exc hv hx1 (blk_lt hv) (by omega))
 have HO1:=Lib.hid (exc_row ho hR hx1)
 have HB1:=Lib.hid (blk_exc HI.out.box hx1 (blk_lt HI.out.box) hne)
 have HR1:=Lib.hid hr1
 have HS1:=Lib.hid hs1
 clear hv ho hx1 hr1 hs1
 go_upto_region 2 with (fail)
 have HR2:=Lib.hid (HR1.out.alloc (.cells #[.int .i64 a.kind,.string (strOfNums a.text),.int .i64 a.place] 97))
 have HX2:=Lib.hid (HX1.out.alloc (Nat.le_trans hw HX1.out.size) (.cells #[.int .i64 a.kind,.string (strOfNums a.text),.int .i64 a.place] 97))
 have HV2:=Lib.hid (blk_alloc HV1.out (.cells #[.int .i64 a.kind,.string (strOfNums a.text),.int .i64 a.place] 97))
 have HB2:=Lib.hid (blk_alloc HB1.out (.cells #[.int .i64 a.kind,.string (strOfNums a.text),.int .i64 a.place] 97))
 have HF2:=Lib.hid (heap_alloc_new W1 (.cells #[.int .i64 a.kind,.string (strOfNums a.text),.int .i64 a.place] 97))
 have HO2:=Lib.hid (exc_row HO1.out hR ((Exc.refl _ _ _).alloc (Nat.le_refl _) (.cells #[.int .i64 a.kind,.string (strOfNums a.text),.int .i64 a.place] 97)))
 have hVlt:V<W1.heap.size:=blk_lt HV1.out
 clear HR1 HX1 HV1 HB1 HO1
 generalize hW2:W1.alloc (.cells #[.int .i64 a.kind,.string (strOfNums a.text),.int .i64 a.place] 97)=W2 at *
 clear hW2
 generalize W1.heap.size=BF at *
 obtain ⟨hf2,f0,f1,f2,_⟩:=blk3 HF2.out
 have v0:W2.cell? ⟨V,0,none⟩=some v:=(blk_cell HV2.out 0).trans rfl
 obtain ⟨va,vc,rfl⟩:=ownsRow_form HO2.out
 go_upto_region 3 with (at_builtin;refine wpList_append_own _ rfl (.tmp 10) (.tmp 12) 66 rfl (V+1) 97 i0 _ 3 32 Tryz.underlying66 I1.out I2.out I3.out I4.out rfl (by decide) _ acc.length (toksCells acc) rfl (exc_row HO2.out hR ((Exc.refl _ _ _).alloc (Nat.le_refl _) (.cells #[.int .i64 a.kind,.string (strOfNums a.text),.int .i64 a.place] 97))) ⟨W2.heap.size,0,none⟩ 1 1 (tokCells a) rfl rfl (tokCells_new W2 a _ rfl) (tokCells_one a) (by unfold maxLen;omega) (by omega) (by simp;omega) ?_;intro v4 W4 hown4 hg4 hx;clear hx;have HG4:=Lib.hid hg4;obtain ⟨a4,c4,rfl⟩:=ownsRow_form hown4;have HO4:=Lib.hid hown4;have HV4:=Lib.hid (grown_keeps hg4 HO2.out (Nat.lt_succ_self V) HV2.out);obtain ⟨hv4,x4,y4⟩:=blk1 HV4.out;clear hown4 hg4)
 have hb:Below V W2 (W4.setCell ⟨V,0,none⟩ (.slice a4 (acc.length+1) c4)):=(((Below.refl V W2).alloc (by omega) _).grown HG4.out (by simp;omega) (fun k hk=>by have:=(ownsRow_lt HO2.out k hk).1;omega)).setCell (Nat.le_refl _) _
 have HV5:=Lib.hid (show (W4.setCell ⟨V,0,none⟩ (.slice a4 (acc.length+1) c4)).heap[V]?=some (.cells #[.slice a4 (acc.length+1) c4] 66 (0,0)) from (blk_set HV4.out 0 _).trans rfl)
 have HO5:=Lib.hid (ownsRow_setCell_below HO4.out (a:=⟨V,0,none⟩) (Nat.lt_succ_self V) (.slice a4 (acc.length+1) c4))
 have HR5:=Lib.hid (HR2.out.deep hb hR hg)
 have HX5:=Lib.hid (HX2.out.trans (.of_below hb))
 have HB5:=Lib.hid (blk_below HB2.out hb hBx)
 clear hb HV4 HO4 HG4 hv4 x4 y4 HR2 HX2 HB2 HV2 HO2 v0 f0 f1 f2 hf2 HF2
 generalize W4.setCell ⟨V,0,none⟩ (.slice a4 (acc.length+1) c4)=W5 at *
 generalize nameR r=q at *
 obtain ⟨a',r'⟩|⟨cc,pp⟩:=q
 · obtain ⟨rfl,rfl,rfl,rfl⟩:=HS1.out
   have HE1:=Lib.hid (HE.out a r1 rfl)
   have HV6:=Lib.hid (HV.out.trans (bind_ok _ _ _))
   have HN5:Hid (NamesAt R g c l Bx V w0 W5 (acc++[a]) r1):=Lib.hid ⟨HR5.out,HB5.out,⟨_,HV5.out,by rw [toksCells_snoc,List.length_append];exact HO5.out⟩,HX5.out,by have:=HE1.out.2;simp;omega⟩
   have hb5:W5.cell? ⟨Bx,0,none⟩=some (.pointer (some ⟨R,0,none⟩)):=(blk_cell HB5.out 0).trans rfl
   clear HS1 HE HV HV5 HO5 HR5 HX5
   go_wp2_with fail
   refine (rdStands_any _ R g c l r1 (0,0) 4 ⟨#[125]⟩ [125] (by kernel_rfl) HN5.out.rd).mono ?_
   rintro e W6 ⟨rfl,hb6⟩
   have HN6:=Lib.hid (HN5.out.stay hR hne hw (HN5.out.rd.keep hb6) (.of_below hb6) (Nat.le_refl _))
   clear hb6 hb5
   have HC:Hid (commaR r1=if isT 4 [125] r1=true then .ok () r1 else wantR [44] r1):=Lib.hid rfl
   generalize isT 4 [125] r1=b at *
   cases b
   · have HC1:=Lib.hid (HC.out.trans (if_neg (by decide)))
     have hb6:W6.cell? ⟨Bx,0,none⟩=some (.pointer (some ⟨R,0,none⟩)):=(blk_cell HN6.out.box 0).trans rfl
     go_wp2_with fail
     refine (want_any _ R g c l r1 ⟨#[44]⟩ [44] (by kernel_rfl) HN6.out.rd).mono ?_
     rintro e W7 ⟨r7,F7,ok7,rfl,hr7,hx7,hs7⟩
     have HR7:=Lib.hid hr7
     have HX7:=Lib.hid hx7
     have HS7:=Lib.hid hs7
     have HE7:=Lib.hid (want_eats (s:=[44]) HN6.out.rd.ends)
     clear hr7 hx7 hs7 hb6
     generalize wantR [44] r1=q at *
     obtain ⟨a',r'⟩|⟨cc,pp⟩:=q
     · obtain ⟨rfl,_,rfl,rfl⟩:=HS7.out
       have HW:=Lib.hid (HV6.out.trans (by rw [HC1.out];rfl:_=Res.ok a r7))
       go_wp2
       go_ret
       rw [HW.out]
       exact ⟨rfl,HN6.out.stay hR hne hw HR7.out HX7.out (Nat.le_of_lt (HE7.out _ _ rfl).2)⟩
     · obtain ⟨rfl,rfl⟩:=HS7.out
       have HW:=Lib.hid (HV6.out.trans (by rw [HC1.out];rfl:_=Res.no cc pp))
       go_wp2
       go_ret
       rw [HW.out]
       exact ⟨rfl,HN6.out.fails hR hw HR7.out HX7.out⟩
   · have HC1:=Lib.hid (HC.out.trans (if_pos rfl))
     have HW:=Lib.hid (HV6.out.trans (by rw [HC1.out];rfl:_=Res.ok a r1))
     go_wp2
     go_ret
     rw [HW.out]
     exact ⟨rfl,HN6.out⟩
 · obtain ⟨rfl,rfl⟩:=HS1.out
   have HW:=Lib.hid (HV.out.trans (bind_no _ _ _))
   go_wp2
   go_ret
   rw [HW.out]
   exact ⟨rfl,⟨r1,HR5.out⟩,⟨_,_,_,HV5.out⟩,HX5.out⟩
end Go.Proofs.YtokhnoogkdlidaaGreatDoor
namespace Go.Proofs.YtokhnoogkdlidaaGreatDoor
open Go.RowKit
def NGood (ne:Nat)(m:List NEnt):Prop:=∀ q ∈ m,(q.kind=10→q.ref<ne)∧q.kind≤13
theorem lookN_mem:∀ (m:List NEnt) (s:ByteArray) (p:Nat × Nat),lookN m s=some p→∃ q ∈ m,q.kind=p.1∧q.ref=p.2
 | [],_,_,h=>by cases h
 | q::r,s,p,h=>by
  rw [lookN] at h
  split at h
  · cases h
    exact ⟨q,List.mem_cons_self,rfl,rfl⟩
  · obtain ⟨q',h1,h2⟩:=lookN_mem r s p h
    exact ⟨q',List.mem_cons_of_mem _ h1,h2⟩
theorem NGood.look {ne:Nat}{m:List NEnt}(h:NGood ne m)(s:ByteArray)(p:Nat × Nat)(hp:lookN m s=some p):(p.1=10→p.2<ne)∧p.1≤13:=by
 obtain ⟨q,h1,h2,h3⟩:=lookN_mem m s p hp
 rw [←h2,←h3]
 exact h q h1
theorem NGood.snoc {ne:Nat}{m:List NEnt}(h:NGood ne m){q:NEnt}(hq:(q.kind=10→q.ref<ne)∧q.kind≤13):NGood ne (m++[q]):=by
 intro p hp
 rcases List.mem_append.1 hp with hp|hp
 · exact h p hp
 · rw [List.mem_singleton.1 hp]
   exact hq
theorem basic_good (ne:Nat):NGood ne basicN:=by
 intro q hq
 simp [basicN] at hq
 rcases hq with rfl|rfl|rfl|rfl|rfl|rfl|rfl|rfl|rfl|rfl|rfl|rfl<;>exact ⟨by simp,by simp⟩
theorem choM_good {ne i:Nat}{m m':List NEnt}{x:RCho}(h:NGood ne m)(hi:i<ne)(he:choM i m x=.ok m'):NGood ne m':=by
 unfold choM at he
 split at he
 · cases he
 · split at he
   · split at he
     · cases he
     · cases he
       exact h.snoc ⟨fun _=>hi,by simp⟩
   · cases he
theorem chosM_good:∀ {ne i:Nat} {m m':List NEnt} {l:List RCho},NGood ne m→i+l.length≤ne→chosM i m l=.ok m'→NGood ne m'
 | _,_,_,_,[],h,_,he=>by
  cases he
  exact h
 | ne,i,m,m',x::r,h,hi,he=>by
  rw [chosM] at he
  rw [List.length_cons] at hi
  cases hx:choM i m x with
  | no c p =>
   rw [hx] at he
   cases he
  | ok m1 =>
   rw [hx,mbind_ok] at he
   exact chosM_good (choM_good h (by omega) hx) (by omega) he
theorem recM_good {ne i:Nat}{m m':List NEnt}{x:RRec}(h:NGood ne m)(he:recM i m x=.ok m'):NGood ne m'∧x.fields.length≤16:=by
 unfold recM at he
 split at he
 · cases he
 · split at he
   · rename_i hc
     split at he
     · cases he
     · cases he
       exact ⟨h.snoc ⟨fun h=>by simp at h,by simp⟩,hc.2.2⟩
   · cases he
theorem recsM_good:∀ {ne i:Nat} {m m':List NEnt} {l:List RRec},NGood ne m→recsM i m l=.ok m'→NGood ne m'∧∀ x ∈ l,x.fields.length≤16
 | _,_,_,_,[],h,he=>by
  cases he
  exact ⟨h,fun x hx=>by cases hx⟩
 | ne,i,m,m',x::r,h,he=>by
  rw [recsM] at he
  cases hx:recM i m x with
  | no c p =>
   rw [hx] at he
   cases he
  | ok m1 =>
   rw [hx,mbind_ok] at he
   obtain ⟨h1,h2⟩:=recM_good h hx
   obtain ⟨h3,h4⟩:=recsM_good h1 he
   refine ⟨h3,fun y hy=>?_⟩
   rcases List.mem_cons.1 hy with rfl|hy
   · exact h2
   · exact h4 y hy
structure RawOk (x:RRaw):Prop where
 en:∀ e ∈ x.enums,e.name.length≤100∧∀ t ∈ e.names,t.text.length≤100
 st:∀ s ∈ x.structs,s.name.length≤100∧∀ f ∈ s.fields,f.dflt.text.length≤281474976710656∧f.name.length≤281474976710656
end Go.Proofs.YtokhnoogkdlidaaGreatDoor
