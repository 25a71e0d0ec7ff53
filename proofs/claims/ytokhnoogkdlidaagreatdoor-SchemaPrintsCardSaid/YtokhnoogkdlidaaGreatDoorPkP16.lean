/-
  Plain facts for the document's own Make: names in the order in which they were declared, the first place of a name, values looked at two by two. No run of the program stands in this text. Conditions: those that each theorem names.
-/
import Derived.Test.YtokhnoogkdlidaaGreatDoorPkP15
import Derived.Deep.RegionLaw
import Derived.Deep.AppendLies
namespace Go.Proofs.YtokhnoogkdlidaaGreatDoor
open Go.ChangeShapes Go.WideShapes Go.ChangeAt Go.RowKit Go.Shelf
def ChoPost (R g c:Nat)(l:List Tok)(w:World)(x:Res RCho)(e:Ending)(w':World):Prop:=
 match x with
 | .ok s r'=>∃ v,e=.returned (.tuple #[.agg #[.string (strOfNums s.name),.int .i64 s.place,v],.bool true])∧w'.ownsRow w.heap.size 97 3 v s.names.length (toksCells s.names)∧Rd w' R g c l r' (0,0)∧Exc R w.heap.size w w'
 | .no cc p=>∃ (S:ByteArray) (n:Int) (a:Option Addr) (m c':Nat) (r':List Tok),e=.returned (.tuple #[.agg #[.string S,.int .i64 n,.slice a m c'],.bool false])∧Rd w' R g c l r' (cc,p)∧Exc R w.heap.size w w'
theorem names_keeper {R g c:Nat}{l:List Tok}{Bx V:Nat}{w0:World}(hR:R<V)(hg:g<V)(hBx:Bx<V)(hne:Bx≠R)(hw:V≤w0.heap.size)(hl:l.length≤2048) :
  Keeper R g c l 129 #[.pointer (some ⟨Bx,0,none⟩),.pointer (some ⟨V,0,none⟩)] (NamesAt R g c l Bx V w0) (FaultAt R g c l V 66 w0) valueNR where
 enters:=enters_of Tryz.func129 (by kernel_rfl) rfl
 rd:=fun _ _ _ h=>h.rd
 stay:=fun _ _ _ _ _ h hr hx hl'=>h.stay hR hne hw hr hx hl'
 fails:=fun _ _ _ _ _ _ h hr hx=>h.fails hR hw hr hx
 eats:=fun _ h=>valueN_eats h
 gives:=fun W acc r h=>choice1_any hR hg hBx hne hw hl W acc r h
set_option maxRecDepth 100000 in
set_option maxHeartbeats 2000000 in
theorem choice_any (w:World)(R g c:Nat)(l r:List Tok)(hl:l.length≤2048)(h:Rd w R g c l r (0,0)) :
  Calls Tryz.prog 106 #[.pointer (some ⟨R,0,none⟩)] w (ChoPost R g c l w (choR r)):=by
 have hR:=blk_lt h.blk
 have hg:=h.glt
 have HT:Hid (choR r=(nameR r).bind fun t r1=>((wantR [123] r1).bind fun _ r2=>namesL [] r2).bind fun fs r3=>.ok ⟨t.text,t.place,fs⟩ r3):=by
  unfold choR
  refine Lib.hid ?_
  cases nameR r with
  | no c p=>rfl
  | ok a r1 =>
   simp only [bind_ok]
   cases wantR [123] r1 with
   | no c p=>rfl
   | ok b r2=>rfl
 have hsz:w.heap.size+2≤((w.alloc (.cells #[.pointer (some ⟨R,0,none⟩)] 121)).alloc (.cells #[.string ⟨#[]⟩,.int .i64 0,.slice none 0 0] 105)).heap.size:=by rw [World.size_alloc,World.size_alloc];omega
 have hb0:Below w.heap.size w ((w.alloc (.cells #[.pointer (some ⟨R,0,none⟩)] 121)).alloc (.cells #[.string ⟨#[]⟩,.int .i64 0,.slice none 0 0] 105)):=((Below.refl _ _).alloc (Nat.le_refl _) _).alloc (by simp) _
 have HX0:=Lib.hid (Exc.of_below (R:=R) hb0)
 have HR0:=Lib.hid (h.keep hb0)
 have HB0:=Lib.hid (blk_alloc (heap_alloc_new w (.cells #[.pointer (some ⟨R,0,none⟩)] 121)) (.cells #[.string ⟨#[]⟩,.int .i64 0,.slice none 0 0] 105))
 have HZ0:=Lib.hid (show ((w.alloc (.cells #[.pointer (some ⟨R,0,none⟩)] 121)).alloc (.cells #[.string ⟨#[]⟩,.int .i64 0,.slice none 0 0] 105)).heap[w.heap.size+1]?=some (.cells #[.string ⟨#[]⟩,.int .i64 0,.slice none 0 0] 105 (0,0)) from by
  have:=heap_alloc_new (w.alloc (.cells #[.pointer (some ⟨R,0,none⟩)] 121)) (.cells #[.string ⟨#[]⟩,.int .i64 0,.slice none 0 0] 105)
  rwa [World.size_alloc] at this)
 clear h hb0
 go_enter Tryz.func106,Tryz.ntmps106
 go_upto_region 1 with (fail)
 generalize hW0:(w.alloc (.cells #[.pointer (some ⟨R,0,none⟩)] 121)).alloc (.cells #[.string ⟨#[]⟩,.int .i64 0,.slice none 0 0] 105)=W0 at *
 clear hW0
 have b0:W0.cell? ⟨w.heap.size,0,none⟩=some (.pointer (some ⟨R,0,none⟩)):=(blk_cell HB0.out 0).trans rfl
 go_wp2_with fail
 refine (name_any _ R g c l r HR0.out).mono ?_
 rintro e W1 ⟨a1,r1,F1,ok1,rfl,hr1,hx1,hs1⟩
 have hs01:=hx1.size
 have HX1:=Lib.hid (HX0.out.thenB (Nat.le_refl _) hx1)
 have HZ1:=Lib.hid (blk_exc HZ0.out hx1 (blk_lt HZ0.out) (by omega))
 have HB1:=Lib.hid (blk_exc HB0.out hx1 (blk_lt HB0.out) (by omega))
 have HR1:=Lib.hid hr1
 have HS1:=Lib.hid hs1
 clear hr1 hx1 hs1 b0 HX0 HR0 HB0 HZ0
 unfold tokV
 go_upto_region 2 with (fail)
 have HR2:=Lib.hid (HR1.out.alloc (.cells #[.int .i64 a1.kind,.string (strOfNums a1.text),.int .i64 a1.place] 97))
 have HX2:=Lib.hid (HX1.out.alloc HX1.out.size (.cells #[.int .i64 a1.kind,.string (strOfNums a1.text),.int .i64 a1.place] 97))
 have HB2:=Lib.hid (blk_alloc HB1.out (.cells #[.int .i64 a1.kind,.string (strOfNums a1.text),.int .i64 a1.place] 97))
 have HZ2:=Lib.hid (blk_alloc HZ1.out (.cells #[.int .i64 a1.kind,.string (strOfNums a1.text),.int .i64 a1.place] 97))
 have HT2:=Lib.hid (heap_alloc_new W1 (.cells #[.int .i64 a1.kind,.string (strOfNums a1.text),.int .i64 a1.place] 97))
 have hs2:W1.heap.size+1≤(W1.alloc (.cells #[.int .i64 a1.kind,.string (strOfNums a1.text),.int .i64 a1.place] 97)).heap.size:=Nat.le_of_eq (World.size_alloc ..).symm
 clear HR1 HX1 HB1 HZ1
 generalize hW2:W1.alloc (.cells #[.int .i64 a1.kind,.string (strOfNums a1.text),.int .i64 a1.place] 97)=W2 at *
 clear hW2
 generalize hBT:W1.heap.size=BT at *
 clear hBT
 generalize nameR r=q at *
 obtain ⟨a',r'⟩|⟨cc,pp⟩:=q
 · obtain ⟨rfl,rfl,rfl,rfl⟩:=HS1.out
   have HT1:=Lib.hid (HT.out.trans (bind_ok _ _ _))
   clear HT HS1
   go_upto_region 5 with (fail)
   have HR3:=Lib.hid (HR2.out.alloc (.cells #[.slice none 0 0] 66))
   have HX3:=Lib.hid (HX2.out.alloc HX2.out.size (.cells #[.slice none 0 0] 66))
   have HB3:=Lib.hid (blk_alloc HB2.out (.cells #[.slice none 0 0] 66))
   have HZ3:=Lib.hid (blk_alloc HZ2.out (.cells #[.slice none 0 0] 66))
   have HT3:=Lib.hid (blk_alloc HT2.out (.cells #[.slice none 0 0] 66))
   have HV3:=Lib.hid (heap_alloc_new W2 (.cells #[.slice none 0 0] 66))
   have hs3:W2.heap.size+1≤(W2.alloc (.cells #[.slice none 0 0] 66)).heap.size:=Nat.le_of_eq (World.size_alloc ..).symm
   clear HR2 HX2 HB2 HZ2 HT2
   generalize hW3:W2.alloc (.cells #[.slice none 0 0] 66)=W3 at *
   clear hW3
   generalize hV:W2.heap.size=V at *
   clear hV
   have b3:W3.cell? ⟨w.heap.size,0,none⟩=some (.pointer (some ⟨R,0,none⟩)):=(blk_cell HB3.out 0).trans rfl
   have HBR:=Lib.hid (braced_any (R:=R) (g:=g) (c:=c) (l:=l) (I:=NamesAt R g c l w.heap.size V W3) (J:=FaultAt R g c l V 66 W3) (step:=valueNR) namesL (fun acc r h=>namesL_step2 h) (names_keeper (R:=R) (g:=g) (c:=c) (l:=l) (Bx:=w.heap.size) (V:=V) (w0:=W3) (by omega) (by omega) (by omega) (by omega) (by omega) hl) [] r1 W3 ⟨HR3.out,HB3.out,⟨_,HV3.out,World.ownsRow_nil _ _ _ _⟩,Exc.refl _ _ _,by have:=HR3.out.len;simpa using this⟩)
   go_wp2_with fail
   refine HBR.out.mono ?_
   rintro e W4 hp
   have HP:=Lib.hid hp
   clear hp b3
   generalize ((wantR [123] r1).bind fun _ r2=>namesL [] r2)=q at *
   obtain ⟨fs,r4⟩|⟨cc,pp⟩:=q
   · obtain ⟨rfl,hi⟩:=HP.out
     have HI:=Lib.hid hi
     obtain ⟨v,hv,ho⟩:=hi.row
     obtain ⟨va,vc,rfl⟩:=ownsRow_form ho
     have HO:=Lib.hid ho
     have HZ4:=Lib.hid (blk_exc HZ3.out hi.exc (by omega) (by omega))
     obtain ⟨ht4,t0,t1,t2,_⟩:=blk3 (blk_exc HT3.out hi.exc (by omega) (by omega))
     obtain ⟨hz4,z0,z1,z2,y0,y1,y2⟩:=blk3 HZ4.out
     have v4:W4.cell? ⟨V,0,none⟩=some _:=(blk_cell hv 0).trans rfl
     have HE:=Lib.hid (HT1.out.trans (bind_ok _ _ _))
     clear hi hv ho HP
     go_wp2
     refine post_gen (fun Wf=>Wf.heap[w.heap.size+1]?=some (.cells #[.string (strOfNums a1.text),.int .i64 a1.place,.slice va fs.length vc] 105 (0,0))∧Wf.ownsRow w.heap.size 97 3 (.slice va fs.length vc) fs.length (toksCells fs)∧Rd Wf R g c l r4 (0,0)∧Exc R w.heap.size w Wf) ⟨?_,?_,?_,?_⟩ ?_
     · exact blk_set3 HZ4.out _ _ _
     · exact ownsRow_base (ownsRow_setCell_below (ownsRow_setCell_below (ownsRow_setCell_below HO.out (a:=⟨w.heap.size+1,0,none⟩) (by show w.heap.size+1<_;omega) _) (a:=⟨w.heap.size+1,1,none⟩) (by show w.heap.size+1<_;omega) _) (a:=⟨w.heap.size+1,2,none⟩) (by show w.heap.size+1<_;omega) _) (by omega)
     · exact HI.out.rd.set3 (by omega) (by omega) _ _ _
     · exact (HX3.out.trans (HI.out.exc.mono (by omega))).set3 (by omega) _ _ _
     · rintro Wf ⟨e1,e2,e3,e4⟩
       obtain ⟨_,c0,c1,c2,_⟩:=blk3 e1
       rw [HE.out]
       exact bodyPost_ret (v:=.tuple #[.agg #[.string (strOfNums a1.text),.int .i64 a1.place,.slice va fs.length vc],.bool true]) (by simp [results,Tryz.results106,go_sem,c0,c1,c2]) rfl ⟨_,rfl,e2,e3,e4⟩
   · obtain ⟨rfl,⟨r4,hr4⟩,⟨va,vn,vc,hv⟩,hx4⟩:=HP.out
     have HR4:=Lib.hid hr4
     have HX4:=Lib.hid hx4
     have HZ4:=Lib.hid (blk_exc HZ3.out hx4 (by omega) (by omega))
     obtain ⟨ht4,t0,t1,t2,_⟩:=blk3 (blk_exc HT3.out hx4 (by omega) (by omega))
     obtain ⟨hz4,z0,z1,z2,y0,y1,y2⟩:=blk3 HZ4.out
     have v4:W4.cell? ⟨V,0,none⟩=some _:=(blk_cell hv 0).trans rfl
     have HE:=Lib.hid (HT1.out.trans (bind_no _ _ _))
     clear hr4 hx4 hv HP
     go_wp2
     refine post_gen (fun Wf=>Wf.heap[w.heap.size+1]?=some (.cells #[.string (strOfNums a1.text),.int .i64 a1.place,.slice va vn vc] 105 (0,0))∧Rd Wf R g c l r4 (cc,pp)∧Exc R w.heap.size w Wf) ⟨?_,?_,?_⟩ ?_
     · exact blk_set3 HZ4.out _ _ _
     · exact HR4.out.set3 (by omega) (by omega) _ _ _
     · exact (HX3.out.trans (HX4.out.mono (by omega))).set3 (by omega) _ _ _
     · rintro Wf ⟨e1,e3,e4⟩
       obtain ⟨_,c0,c1,c2,_⟩:=blk3 e1
       rw [HE.out]
       exact bodyPost_ret (v:=.tuple #[.agg #[.string (strOfNums a1.text),.int .i64 a1.place,.slice va vn vc],.bool false]) (by simp [results,Tryz.results106,go_sem,c0,c1,c2]) rfl ⟨_,_,_,_,_,_,rfl,e3,e4⟩
 · obtain ⟨rfl,rfl⟩:=HS1.out
   have HE:=Lib.hid (HT.out.trans (bind_no _ _ _))
   obtain ⟨hz4,z0,z1,z2,y0,y1,y2⟩:=blk3 HZ2.out
   go_wp2
   refine post_gen (fun Wf=>Wf.heap[w.heap.size+1]?=some (.cells #[.string ⟨#[]⟩,.int .i64 0,.slice none 0 0] 105 (0,0))∧Rd Wf R g c l r1 (cc,pp)∧Exc R w.heap.size w Wf) ⟨?_,?_,?_⟩ ?_
   · exact blk_set3 HZ2.out _ _ _
   · exact HR2.out.set3 (by omega) (by omega) _ _ _
   · exact HX2.out.set3 (by omega) _ _ _
   · rintro Wf ⟨e1,e3,e4⟩
     obtain ⟨_,c0,c1,c2,_⟩:=blk3 e1
     rw [HE.out]
     exact bodyPost_ret (v:=.tuple #[.agg #[.string ⟨#[]⟩,.int .i64 0,.slice none 0 0],.bool false]) (by simp [results,Tryz.results106,go_sem,c0,c1,c2]) rfl ⟨_,_,_,_,_,_,rfl,e3,e4⟩
end Go.Proofs.YtokhnoogkdlidaaGreatDoor
namespace Go.Proofs.YtokhnoogkdlidaaGreatDoor
open Go.ChangeShapes Go.WideShapes Go.ChangeAt Go.RowKit Go.Shelf
def recCells (p:RRec × Value):List Value:=[.string (strOfNums p.1.name),.int .i64 p.1.place,p.2]
def choCells (p:RCho × Value):List Value:=[.string (strOfNums p.1.name),.int .i64 p.1.place,p.2]
def recsCells (l:List (RRec × Value)):List Value:=l.flatMap recCells
def chosCells (l:List (RCho × Value)):List Value:=l.flatMap choCells
theorem recsCells_snoc (l:List (RRec × Value))(p:RRec × Value):recsCells (l++[p])=recsCells l++recCells p:=by simp [recsCells]
theorem chosCells_snoc (l:List (RCho × Value))(p:RCho × Value):chosCells (l++[p])=chosCells l++choCells p:=by simp [chosCells]
theorem rec_info:(Tryz.prog.info? 102).map (fun i=>(i.zero,i.size,i.bytes))=some (some (.agg #[.string ⟨#[]⟩,.int .i64 0,.slice none 0 0]),3,48):=by kernel_rfl
theorem cho_info:(Tryz.prog.info? 105).map (fun i=>(i.zero,i.size,i.bytes))=some (some (.agg #[.string ⟨#[]⟩,.int .i64 0,.slice none 0 0]),3,48):=by kernel_rfl
theorem rows_ne {w:World}{b b':Nat}{e e':TypeId}{s s':Nat}{v v':Value}{n n':Nat}{xs xs':List Value}(h:w.ownsRow b e s v n xs)(h':w.ownsRow b' e' s' v' n' xs')(hne:e≠e'):∀ k,v.ownBlock=some k→v'.ownBlock≠some k:=by
 intro k hk hk'
 rcases h.2 with ⟨rfl,_⟩|⟨g,cap,cur,rfl,_,hg,_⟩
 · simp [Value.ownBlock] at hk
 rcases h'.2 with ⟨rfl,_⟩|⟨g',cap',cur',rfl,_,hg',_⟩
 · simp [Value.ownBlock] at hk'
 simp [Value.ownBlock] at hk hk'
 subst hk
 subst hk'
 rw [hg] at hg'
 injection hg' with hg'
 injection hg' with _ ht
 exact hne ht
theorem row_other {w w':World}{row:Option Nat}(hg:w.grownBy w' row){b:Nat}{e:TypeId}{s:Nat}{v:Value}{n:Nat}{xs:List Value}(h:w.ownsRow b e s v n xs)(hne:∀ k,v.ownBlock=some k→row≠some k):w'.ownsRow b e s v n xs:=by
 obtain ⟨hl,h'⟩:=h
 refine ⟨hl,?_⟩
 rcases h' with h1|⟨g',cap',cur,hv,h1,hg',h2⟩
 · exact .inl h1
 · have hlt:=blk_lt hg'
   subst hv
   exact .inr ⟨g',cap',cur,rfl,h1,(hg.block g' hlt (fun e=>hne g' (by simp [Value.ownBlock]) e.symm)).trans hg',h2⟩
structure RawAt (A:Nat)(W:World)(ss:List (RRec × Value))(es:List (RCho × Value))(ts:List Tok)(sv ev rv:Value):Prop where
 blk:W.heap[A]?=some (.cells #[sv,ev,rv] 68 (0,0))
 structs:W.ownsRow (A+1) 102 3 sv ss.length (recsCells ss)
 enums:W.ownsRow (A+1) 105 3 ev es.length (chosCells es)
 roots:W.ownsRow (A+1) 97 3 rv ts.length (toksCells ts)
 apart:∀ p ∈ es,∀ k,p.2.ownBlock=some k→rv.ownBlock≠some k
 fields:∀ p ∈ ss,W.ownsRow (A+1) 114 8 p.2 p.1.fields.length (fieldsCells p.1.fields)
 names:∀ p ∈ es,W.ownsRow (A+1) 97 3 p.2 p.1.names.length (toksCells p.1.names)
theorem RawAt.stay {A R:Nat}{W W':World}{ss:List (RRec × Value)}{es:List (RCho × Value)}{ts:List Tok}{sv ev rv:Value}(h:RawAt A W ss es ts sv ev rv)(hR:R<A)(hx:Exc R W.heap.size W W'):RawAt A W' ss es ts sv ev rv:=
 ⟨blk_exc h.blk hx (blk_lt h.blk) (by omega),exc_row h.structs hR hx,exc_row h.enums hR hx,exc_row h.roots hR hx,h.apart,fun p hp=>exc_row (h.fields p hp) hR hx,fun p hp=>exc_row (h.names p hp) hR hx⟩
theorem RawAt.fell {A:Nat}{W W':World}{ss:List (RRec × Value)}{es:List (RCho × Value)}{ts:List Tok}{sv ev rv:Value}(h:RawAt A W ss es ts sv ev rv)(hb:Below W.heap.size W W'):RawAt A W' ss es ts sv ev rv:=by
 refine ⟨blk_below h.blk hb (blk_lt h.blk),?_,?_,?_,h.apart,fun p hp=>?_,fun p hp=>?_⟩
 · exact (Exc.of_below (R:=0) hb).ownsRow h.structs (fun e=>by have:=(ownsRow_lt h.structs 0 e).1;omega)
 · exact (Exc.of_below (R:=0) hb).ownsRow h.enums (fun e=>by have:=(ownsRow_lt h.enums 0 e).1;omega)
 · exact (Exc.of_below (R:=0) hb).ownsRow h.roots (fun e=>by have:=(ownsRow_lt h.roots 0 e).1;omega)
 · exact (Exc.of_below (R:=0) hb).ownsRow (h.fields p hp) (fun e=>by have:=(ownsRow_lt (h.fields p hp) 0 e).1;omega)
 · exact (Exc.of_below (R:=0) hb).ownsRow (h.names p hp) (fun e=>by have:=(ownsRow_lt (h.names p hp) 0 e).1;omega)
theorem mem_snoc {α:Type}{l:List α}{a p:α}(h:p ∈ l++[a]):p ∈ l∨p=a:=by
 rcases List.mem_append.1 h with h|h
 · exact .inl h
 · exact .inr (List.mem_singleton.1 h)
theorem RawAt.struct {A:Nat}{W W4:World}{ss:List (RRec × Value)}{es:List (RCho × Value)}{ts:List Tok}{sv ev rv:Value}(h:RawAt A W ss es ts sv ev rv){p:RRec × Value}(hp:W.ownsRow (A+1) 114 8 p.2 p.1.fields.length (fieldsCells p.1.fields))
  (hg:W.grownBy W4 sv.ownBlock) {sv':Value} (hown:W4.ownsRow (A+1) 102 3 sv' (ss.length+1) (recsCells ss++recCells p)):RawAt A (W4.setCell ⟨A,0,none⟩ sv') (ss++[p]) es ts sv' ev rv:=by
 have hA:∀ k,sv.ownBlock=some k→A≠k:=fun k hk=>by have:=(ownsRow_lt h.structs k hk).1;omega
 have hb4:W4.heap[A]?=some (.cells #[sv,ev,rv] 68 (0,0)):=(hg.block A (blk_lt h.blk) (fun e=>hA A e.symm rfl)).trans h.blk
 refine ⟨(blk_set hb4 0 sv').trans rfl,?_,?_,?_,h.apart,fun q hq=>?_,fun q hq=>?_⟩
 · rw [recsCells_snoc,List.length_append]
   exact ownsRow_setCell_below hown (Nat.lt_succ_self A) _
 · exact ownsRow_setCell_below (row_other hg h.enums (rows_ne h.enums h.structs (by decide))) (Nat.lt_succ_self A) _
 · exact ownsRow_setCell_below (row_other hg h.roots (rows_ne h.roots h.structs (by decide))) (Nat.lt_succ_self A) _
 · rcases mem_snoc hq with hq|rfl
   · exact ownsRow_setCell_below (row_other hg (h.fields q hq) (rows_ne (h.fields q hq) h.structs (by decide))) (Nat.lt_succ_self A) _
   · exact ownsRow_setCell_below (row_other hg hp (rows_ne hp h.structs (by decide))) (Nat.lt_succ_self A) _
 · exact ownsRow_setCell_below (row_other hg (h.names q hq) (rows_ne (h.names q hq) h.structs (by decide))) (Nat.lt_succ_self A) _
theorem RawAt.enum {A:Nat}{W W4:World}{ss:List (RRec × Value)}{es:List (RCho × Value)}{ts:List Tok}{sv ev rv:Value}(h:RawAt A W ss es ts sv ev rv){p:RCho × Value}(hp:W.ownsRow (A+1) 97 3 p.2 p.1.names.length (toksCells p.1.names))
  (hap:∀ k,p.2.ownBlock=some k→rv.ownBlock≠some k) (hg:W.grownBy W4 ev.ownBlock) {ev':Value} (hown:W4.ownsRow (A+1) 105 3 ev' (es.length+1) (chosCells es++choCells p)):RawAt A (W4.setCell ⟨A,1,none⟩ ev') ss (es++[p]) ts sv ev' rv:=by
 have hA:∀ k,ev.ownBlock=some k→A≠k:=fun k hk=>by have:=(ownsRow_lt h.enums k hk).1;omega
 have hb4:W4.heap[A]?=some (.cells #[sv,ev,rv] 68 (0,0)):=(hg.block A (blk_lt h.blk) (fun e=>hA A e.symm rfl)).trans h.blk
 refine ⟨(blk_set hb4 1 ev').trans rfl,?_,?_,?_,fun q hq=>?_,fun q hq=>?_,fun q hq=>?_⟩
 · exact ownsRow_setCell_below (row_other hg h.structs (rows_ne h.structs h.enums (by decide))) (Nat.lt_succ_self A) _
 · rw [chosCells_snoc,List.length_append]
   exact ownsRow_setCell_below hown (Nat.lt_succ_self A) _
 · exact ownsRow_setCell_below (row_other hg h.roots (rows_ne h.roots h.enums (by decide))) (Nat.lt_succ_self A) _
 · rcases mem_snoc hq with hq|rfl
   · exact h.apart q hq
   · exact hap
 · exact ownsRow_setCell_below (row_other hg (h.fields q hq) (rows_ne (h.fields q hq) h.enums (by decide))) (Nat.lt_succ_self A) _
 · rcases mem_snoc hq with hq|rfl
   · exact ownsRow_setCell_below (row_other hg (h.names q hq) (rows_ne (h.names q hq) h.enums (by decide))) (Nat.lt_succ_self A) _
   · exact ownsRow_setCell_below (row_other hg hp (rows_ne hp h.enums (by decide))) (Nat.lt_succ_self A) _
theorem RawAt.root {A:Nat}{W W4:World}{ss:List (RRec × Value)}{es:List (RCho × Value)}{ts:List Tok}{sv ev rv:Value}(h:RawAt A W ss es ts sv ev rv){t:Tok}
  (hg:W.grownBy W4 rv.ownBlock) {rv':Value} (hown:W4.ownsRow (A+1) 97 3 rv' (ts.length+1) (toksCells ts++tokCells t)) (hat:rv'.ownBlock=rv.ownBlock∨∃ k,rv'.ownBlock=some k∧W.heap.size≤k):RawAt A (W4.setCell ⟨A,2,none⟩ rv') ss es (ts++[t]) sv ev rv':=by
 have hA:∀ k,rv.ownBlock=some k→A≠k:=fun k hk=>by have:=(ownsRow_lt h.roots k hk).1;omega
 have hb4:W4.heap[A]?=some (.cells #[sv,ev,rv] 68 (0,0)):=(hg.block A (blk_lt h.blk) (fun e=>hA A e.symm rfl)).trans h.blk
 refine ⟨(blk_set hb4 2 rv').trans rfl,?_,?_,?_,fun q hq k hk=>?_,fun q hq=>?_,fun q hq=>?_⟩
 · exact ownsRow_setCell_below (row_other hg h.structs (rows_ne h.structs h.roots (by decide))) (Nat.lt_succ_self A) _
 · exact ownsRow_setCell_below (row_other hg h.enums (rows_ne h.enums h.roots (by decide))) (Nat.lt_succ_self A) _
 · rw [toksCells_snoc,List.length_append]
   exact ownsRow_setCell_below hown (Nat.lt_succ_self A) _
 · rcases hat with e|⟨k',e,hk'⟩
   · rw [e]
     exact h.apart q hq k hk
   · rw [e]
     have:=(ownsRow_lt (h.names q hq) k hk).2
     intro e'
     injection e' with e'
     omega
 · exact ownsRow_setCell_below (row_other hg (h.fields q hq) (rows_ne (h.fields q hq) h.roots (by decide))) (Nat.lt_succ_self A) _
 · exact ownsRow_setCell_below (row_other hg (h.names q hq) (h.apart q hq)) (Nat.lt_succ_self A) _
end Go.Proofs.YtokhnoogkdlidaaGreatDoor
namespace Go.Proofs.YtokhnoogkdlidaaGreatDoor
open Go.RowKit
theorem lookN_memS:∀ (m:List NEnt) (s:ByteArray) (p:Nat × Nat),lookN m s=some p→∃ q ∈ m,q.kind=p.1∧q.name=s
 | [],_,_,h=>by cases h
 | q::r,s,p,h=>by
  rw [lookN] at h
  split at h
  · rename_i e
    cases h
    exact ⟨q,List.mem_cons_self,rfl,e.symm⟩
  · obtain ⟨q',h1,h2⟩:=lookN_memS r s p h
    exact ⟨q',List.mem_cons_of_mem _ h1,h2⟩
theorem hasS_append (a b:List ByteArray)(s:ByteArray):hasS (a++b) s=(hasS a s||hasS b s):=by
 induction a with
 | nil=>simp [hasS]
 | cons x r ih=>simp [hasS,ih,Bool.or_assoc]
theorem lookN_has (m:List NEnt)(s:ByteArray):(lookN m s).isSome=hasS (m.map NEnt.name) s:=by
 induction m with
 | nil=>rfl
 | cons q r ih =>
  rw [lookN,List.map_cons,hasS]
  by_cases h:s=q.name
  · simp [h]
  · simp [h,ih]
theorem look_append (a b:List NEnt)(s:ByteArray):lookN (a++b) s=(lookN a s).or (lookN b s):=by
 induction a with
 | nil=>simp [lookN]
 | cons q r ih =>
  simp only [List.cons_append,lookN]
  split
  · rfl
  · exact ih
def basicS:List ByteArray:=basicN.map NEnt.name
def takenB (used:List ByteArray)(s:ByteArray):Bool:=hasS basicS s||hasS used s
def basicK (s:ByteArray):Nat:=match lookN basicN s with
 | some q=>q.1
 | none=>0
def entsOf (kd:Nat):Nat→List ByteArray→List NEnt
 | _,[]=>[]
 | i,s::r=>⟨s,kd,i⟩::entsOf kd (i+1) r
def choNm (x:RCho):ByteArray:=strOfNums x.name
def recNm (x:RRec):ByteArray:=strOfNums x.name
theorem look_ents_idx (kd:Nat):∀ (l:List ByteArray) (i:Nat) (s:ByteArray),lookN (entsOf kd i l) s=(idx l s).map fun k=>(kd,i+k)
 | [],_,_=>rfl
 | a::r,i,s=>by
  rw [entsOf,lookN,idx]
  by_cases h:s=a
  · subst h
    simp
  · rw [if_neg h,if_neg (fun e=>h e.symm),look_ents_idx kd r (i+1) s]
    cases idx r s with
    | none=>rfl
    | some k =>
     show some (kd,i+1+k)=some (kd,i+(k+1))
     rw [Nat.add_assoc,Nat.add_comm 1 k]
theorem ents_append (kd:Nat):∀ (a b:List ByteArray) (i:Nat),entsOf kd i (a++b)=entsOf kd i a++entsOf kd (i+a.length) b
 | [],b,i=>rfl
 | x::r,b,i=>by
  rw [List.cons_append,entsOf,entsOf,List.cons_append,ents_append kd r b (i+1),List.length_cons,Nat.add_assoc,Nat.add_comm 1 r.length]
theorem ents_names (kd:Nat):∀ (l:List ByteArray) (i:Nat),(entsOf kd i l).map NEnt.name=l
 | [],_=>rfl
 | s::r,i=>by rw [entsOf,List.map_cons,ents_names kd r (i+1)]
theorem choM_ents {i:Nat}{m m':List NEnt}{x:RCho}(h:choM i m x=.ok m'):m'=m++[⟨choNm x,10,i⟩]∧lookN m (choNm x)=none:=by
 unfold choM at h
 split at h
 · cases h
 · rename_i hn
   split at h
   · split at h
     · cases h
     · cases h
       exact ⟨rfl,by simpa [choNm] using hn⟩
   · cases h
theorem recM_ents {i:Nat}{m m':List NEnt}{x:RRec}(h:recM i m x=.ok m'):m'=m++[⟨recNm x,13,i⟩]∧lookN m (recNm x)=none:=by
 unfold recM at h
 split at h
 · cases h
 · rename_i hn
   split at h
   · split at h
     · cases h
     · cases h
       exact ⟨rfl,by simpa [recNm] using hn⟩
   · cases h
theorem or_none {α:Type}{a b:Option α}(h:a.or b=none):a=none:=by
 cases a with
 | none=>rfl
 | some x=>simp at h
theorem chosM_ents:∀ {i:Nat} {m m':List NEnt} {l:List RCho},chosM i m l=.ok m'→m'=m++entsOf 10 i (l.map choNm)∧∀ x ∈ l,lookN m (choNm x)=none
 | _,_,_,[],h=>by
  cases h
  exact ⟨by simp [entsOf],fun x hx=>by cases hx⟩
 | i,m,m',x::r,h=>by
  rw [chosM] at h
  cases hx:choM i m x with
  | no c p =>
   rw [hx] at h
   cases h
  | ok m1 =>
   rw [hx,mbind_ok] at h
   obtain ⟨rfl,h1⟩:=choM_ents hx
   obtain ⟨h2,h3⟩:=chosM_ents h
   refine ⟨by rw [h2,List.map_cons,entsOf,List.append_assoc];rfl,fun y hy=>?_⟩
   rcases List.mem_cons.1 hy with rfl|hy
   · exact h1
   · have:=h3 y hy
     rw [look_append] at this
     exact or_none this
theorem recsM_ents:∀ {i:Nat} {m m':List NEnt} {l:List RRec},recsM i m l=.ok m'→m'=m++entsOf 13 i (l.map recNm)∧∀ x ∈ l,lookN m (recNm x)=none
 | _,_,_,[],h=>by
  cases h
  exact ⟨by simp [entsOf],fun x hx=>by cases hx⟩
 | i,m,m',x::r,h=>by
  rw [recsM] at h
  cases hx:recM i m x with
  | no c p =>
   rw [hx] at h
   cases h
  | ok m1 =>
   rw [hx,mbind_ok] at h
   obtain ⟨rfl,h1⟩:=recM_ents hx
   obtain ⟨h2,h3⟩:=recsM_ents h
   refine ⟨by rw [h2,List.map_cons,entsOf,List.append_assoc];rfl,fun y hy=>?_⟩
   rcases List.mem_cons.1 hy with rfl|hy
   · exact h1
   · have:=h3 y hy
     rw [look_append] at this
     exact or_none this
theorem idx_mem:∀ {l:List ByteArray} {s:ByteArray} {k:Nat},idx l s=some k→s ∈ l∧k<l.length
 | [],_,_,h=>by cases h
 | a::r,s,k,h=>by
  rw [idx] at h
  split at h
  · rename_i e
    cases h
    exact ⟨e▸List.mem_cons_self,by simp⟩
  · cases hr:idx r s with
    | none=>rw [hr] at h;cases h
    | some j =>
     rw [hr] at h
     cases h
     obtain ⟨h1,h2⟩:=idx_mem hr
     exact ⟨List.mem_cons_of_mem _ h1,by simp;omega⟩
def kindD (es ss:List ByteArray)(s:ByteArray):Option (Nat × Nat):=
 if basicK s≠0 then some (basicK s,0) else match idx es s with
  | some k=>some (10,k)
  | none=>match idx ss s with
   | some k=>some (13,k)
   | none=>none
theorem basic_ref:∀ s q,lookN basicN s=some q→q.2=0∧q.1≠10∧q.1≠13:=by
 intro s q h
 obtain ⟨p,hp,h1,h2⟩:=lookN_mem _ _ _ h
 simp [basicN] at hp
 rcases hp with rfl|rfl|rfl|rfl|rfl|rfl|rfl|rfl|rfl|rfl|rfl|rfl<;>(dsimp only at h1 h2;omega)
structure Named (m:List NEnt)(es ss:List ByteArray):Prop where
 all:m=basicN++entsOf 10 0 es++entsOf 13 0 ss
 en:∀ s ∈ es,lookN basicN s=none
 st:∀ s ∈ ss,lookN basicN s=none∧idx es s=none
theorem named_of {ec:List RCho}{sc:List RRec}{m1 m:List NEnt}(h1:chosM 0 basicN ec=.ok m1)(h2:recsM 0 m1 sc=.ok m):Named m (ec.map choNm) (sc.map recNm):=by
 obtain ⟨rfl,h3⟩:=chosM_ents h1
 obtain ⟨rfl,h4⟩:=recsM_ents h2
 refine ⟨rfl,fun s hs=>?_,fun s hs=>?_⟩
 · obtain ⟨x,hx,rfl⟩:=List.mem_map.1 hs
   exact h3 x hx
 · obtain ⟨x,hx,rfl⟩:=List.mem_map.1 hs
   have:=h4 x hx
   rw [look_append] at this
   have hb:=or_none this
   rw [hb,Option.none_or,look_ents_idx] at this
   exact ⟨hb,by simpa using this⟩
theorem Named.look {m:List NEnt}{es ss:List ByteArray}(h:Named m es ss)(s:ByteArray):lookN m s=(lookN basicN s).or (((idx es s).map fun k=>(10,k)).or ((idx ss s).map fun k=>(13,k))):=by
 rw [h.all,List.append_assoc,look_append,look_append,look_ents_idx,look_ents_idx]
 simp
theorem Named.kind {m:List NEnt}{es ss:List ByteArray}(h:Named m es ss)(s:ByteArray):kindD es ss s=(lookN m s).bind fun q=>if q.1=0 then none else some q:=by
 rw [h.look,kindD,basicK]
 cases hb:lookN basicN s with
 | some q =>
  obtain ⟨h2,h10,h13⟩:=basic_ref _ _ hb
  obtain ⟨k,r⟩:=q
  simp only at h2 h10 h13
  subst h2
  by_cases hk:k=0
  · subst hk
    have he:idx es s=none:=by
     cases hi:idx es s with
     | none=>rfl
     | some j =>
      have:=h.en s (idx_mem hi).1
      rw [hb] at this
      cases this
    have hs:idx ss s=none:=by
     cases hi:idx ss s with
     | none=>rfl
     | some j =>
      have:=(h.st s (idx_mem hi).1).1
      rw [hb] at this
      cases this
    simp [he,hs]
  · simp [hk]
 | none =>
  cases idx es s with
  | some k=>simp
  | none =>
   cases idx ss s with
   | some k=>simp
   | none=>simp
theorem Named.root {m:List NEnt}{es ss:List ByteArray}(h:Named m es ss)(s:ByteArray) :
  (match lookN m s with
   | none=>(none:Option Nat)
   | some q=>if q.1=13 then some q.2 else none)=idx ss s:=by
 rw [h.look]
 cases hi:idx ss s with
 | some k =>
  obtain ⟨hb,he⟩:=h.st s (idx_mem hi).1
  simp [hb,he]
 | none =>
  cases hb:lookN basicN s with
  | some q =>
   obtain ⟨_,_,h13⟩:=basic_ref _ _ hb
   simp [h13]
  | none =>
   cases idx es s with
   | some k=>simp
   | none=>simp
/-! ### looked at one by one -/
theorem idx_cut:∀ (l:List ByteArray) (s:ByteArray) (k:Nat),hasS (l.take k) s=false→idx l s=(idx (l.drop k) s).map (· + k)
 | l,s,0,_=>by simp
 | [],s,k+1,_=>by simp [idx]
 | a::r,s,k+1,h=>by
  rw [List.take_succ_cons,hasS,Bool.or_eq_false_iff] at h
  rw [List.drop_succ_cons,idx,if_neg (fun e=>by simp [e] at h),idx_cut r s k h.2]
  cases idx (r.drop k) s with
  | none=>rfl
  | some j =>
   show some (j+k+1)=some (j+(k+1))
   rw [Nat.add_assoc]
theorem has_take_succ (l:List ByteArray)(s:ByteArray)(k:Nat)(hk:k<l.length):hasS (l.take (k+1)) s=(hasS (l.take k) s||decide (s=l[k])):=by
 rw [List.take_succ_eq_append_getElem hk,hasS_append]
 simp [hasS]
theorem has_take_true (l:List ByteArray)(s:ByteArray)(k:Nat)(hk:k<l.length)(h:l[k]=s):hasS l s=true:=by
 rw [←List.take_append_drop (k+1) l,hasS_append,has_take_succ l s k hk]
 simp [h]
theorem idx_at (l:List ByteArray)(s:ByteArray)(k:Nat)(hk:k<l.length)(hn:hasS (l.take k) s=false)(h:l[k]=s):idx l s=some k:=by
 rw [idx_cut l s k hn,List.drop_eq_getElem_cons hk,idx,if_pos h]
 simp
theorem idx_no (l:List ByteArray)(s:ByteArray)(hn:hasS l s=false):idx l s=none:=by
 rw [idx_cut l s l.length (by rw [List.take_length];exact hn)]
 simp [idx]
theorem dupD_step (l:List ByteArray)(k:Nat)(hk:k<l.length):dupFrom (l.take k) (l.drop k)=if hasS (l.take k) l[k]=true then some k else dupFrom (l.take (k+1)) (l.drop (k+1)):=by
 rw [List.drop_eq_getElem_cons hk,dupFrom,List.take_succ_eq_append_getElem hk]
 simp only [List.length_take]
 rw [Nat.min_eq_left (Nat.le_of_lt hk)]
end Go.Proofs.YtokhnoogkdlidaaGreatDoor
