/-
  A world in which the seven variables that the rows list lie as the program's text lays them; and what the walks ask of them, out of that condition. No conditions.
-/
import Derived.Test.YtokhnoogkdlidaaGreatDoorPkP2
import Derived.Test.YtokhnoogkdlidaaGreatDoorPkP20
import Derived.Test.YtokhnoogkdlidaaGreatDoorPkP24
import Derived.Lib.LaidTab
import Derived.Stop.LaidErr
namespace Go.Proofs.YtokhnoogkdlidaaGreatDoor
open Go.ChangeShapes Go.WideShapes Go.ChangeAt Go.RowKit Go.Shelf
theorem dname_fell (w:World)(P g c:Nat)(l r:List Tok)(F:Int × Nat)(q:Bool)(h0:(F.1 != 0)=true)(h:Dp w P g c l r F) :
  Calls Tryz.prog 40 #[.pointer (some ⟨P,0,none⟩),.bool q] w fun e w'=>e=.returned (tokV noTok)∧Dp w' P g c l r F∧Exc P w.heap.size w w':=by
 have HZ0:=Lib.hid (heap_alloc_new w (.cells #[.int .i64 0,.string ByteArray.empty,.int .i64 0] 97))
 have hbA:Below w.heap.size w (w.alloc (.cells #[.int .i64 0,.string ByteArray.empty,.int .i64 0] 97)):=(Below.refl _ _).alloc (Nat.le_refl _) _
 have HBA:=Lib.hid hbA
 have HD:=Lib.hid (h.keep hbA)
 have HH:=Lib.hid (dhere_any _ P g c l r _ HD.out)
 have hP:=blk_lt h.blk
 have hg:=h.glt
 clear h hbA
 unfold tokV at HH
 go_enter Tryz.func40,Tryz.ntmps40
 go_wp2_with fail
 refine HH.out.mono ?_
 rintro e W1 ⟨rfl,hb1⟩
 have hW1:w.heap.size+1≤W1.heap.size:=Nat.le_trans (by simp) hb1.size
 have HB1:=Lib.hid (HBA.out.trans (hb1.mono HBA.out.size))
 have HT2:=Lib.hid (heap_alloc_new W1 (.cells #[.int .i64 (hd r).kind,.string (strOfNums (hd r).text),.int .i64 (hd r).place] 97))
 have hb2:Below W1.heap.size W1 (W1.alloc (.cells #[.int .i64 (hd r).kind,.string (strOfNums (hd r).text),.int .i64 (hd r).place] 97)):=(Below.refl _ _).alloc (Nat.le_refl _) _
 have HB2:=Lib.hid (HB1.out.trans (hb2.mono HB1.out.size))
 have HD2:=Lib.hid ((HD.out.keep hb1).keep hb2)
 have HZ2:=Lib.hid (blk_below (blk_below HZ0.out hb1 (by simp)) hb2 (by omega))
 have hT2:=blk_lt HT2.out
 have hTW:=hW1
 clear hb1 hb2
 go_upto_region 2 with (fail)
 generalize W1.alloc (.cells #[.int .i64 (hd r).kind,.string (strOfNums (hd r).text),.int .i64 (hd r).place] 97)=W2 at *
 generalize W1.heap.size=BT at *
 obtain ⟨hTl,x0,x1,x2,_⟩:=blk3 HT2.out
 obtain ⟨hPl,r0,r1,r2,r3,s1,s2,s3⟩:=blk4 HD2.out.blk
 obtain ⟨hz,z0,z1,z2,y0,y1,y2⟩:=blk3 HZ2.out
 go_wp2
 refine post_gen (fun Wf=>Wf.heap[w.heap.size]?=some (.cells #[.int .i64 0,.string ByteArray.empty,.int .i64 0] 97 (0,0))∧Exc P w.heap.size w Wf∧Dp Wf P g c l r F) ⟨?_,?_,?_⟩ ?_
 · exact blk_set3 HZ2.out _ _ _
 · exact (Exc.of_below HB2.out).set3 (Nat.le_refl _) _ _ _
 · exact HD2.out.set3 (by omega) (by omega) _ _ _
 · rintro Wf ⟨f1,f2,f3⟩
   obtain ⟨_,c0,c1,c2,_⟩:=blk3 f1
   exact bodyPost_ret (v:=.agg #[.int .i64 0,.string ByteArray.empty,.int .i64 0]) (by simp [results,Tryz.results40,go_sem,c0,c1,c2]) rfl ⟨rfl,f3,f2⟩
theorem dname_badF (w:World)(P g c:Nat)(l r:List Tok)(t1:((hd r).kind != 1)=true)(h:Dp w P g c l r (0,0)) :
  Calls Tryz.prog 40 #[.pointer (some ⟨P,0,none⟩),.bool false] w fun e w'=>e=.returned (tokV noTok)∧Dp w' P g c l r (11,(hd r).place)∧Exc P w.heap.size w w':=by
 have HZ0:=Lib.hid (heap_alloc_new w (.cells #[.int .i64 0,.string ByteArray.empty,.int .i64 0] 97))
 have hbA:Below w.heap.size w (w.alloc (.cells #[.int .i64 0,.string ByteArray.empty,.int .i64 0] 97)):=(Below.refl _ _).alloc (Nat.le_refl _) _
 have HBA:=Lib.hid hbA
 have HD:=Lib.hid (h.keep hbA)
 have HH:=Lib.hid (dhere_any _ P g c l r _ HD.out)
 have hP:=blk_lt h.blk
 have hg:=h.glt
 clear h hbA
 unfold tokV at HH
 go_enter Tryz.func40,Tryz.ntmps40
 go_wp2_with fail
 refine HH.out.mono ?_
 rintro e W1 ⟨rfl,hb1⟩
 have hW1:w.heap.size+1≤W1.heap.size:=Nat.le_trans (by simp) hb1.size
 have HB1:=Lib.hid (HBA.out.trans (hb1.mono HBA.out.size))
 have HT2:=Lib.hid (heap_alloc_new W1 (.cells #[.int .i64 (hd r).kind,.string (strOfNums (hd r).text),.int .i64 (hd r).place] 97))
 have hb2:Below W1.heap.size W1 (W1.alloc (.cells #[.int .i64 (hd r).kind,.string (strOfNums (hd r).text),.int .i64 (hd r).place] 97)):=(Below.refl _ _).alloc (Nat.le_refl _) _
 have HB2:=Lib.hid (HB1.out.trans (hb2.mono HB1.out.size))
 have HD2:=Lib.hid ((HD.out.keep hb1).keep hb2)
 have HZ2:=Lib.hid (blk_below (blk_below HZ0.out hb1 (by simp)) hb2 (by omega))
 have hT2:=blk_lt HT2.out
 have hTW:=hW1
 clear hb1 hb2
 go_upto_region 2 with (fail)
 generalize W1.alloc (.cells #[.int .i64 (hd r).kind,.string (strOfNums (hd r).text),.int .i64 (hd r).place] 97)=W2 at *
 generalize W1.heap.size=BT at *
 obtain ⟨hTl,x0,x1,x2,_⟩:=blk3 HT2.out
 obtain ⟨hPl,r0,r1,r2,r3,s1,s2,s3⟩:=blk4 HD2.out.blk
 simp only at r2 r3
 have HC:=Lib.hid (dbad_go W2 P g c l r 11 HD2.out)
 go_wp2_with fail
 refine HC.out.mono ?_
 rintro e W3 ⟨rfl,hd3,hx3⟩
 have HD3:=Lib.hid hd3
 have HX3:=Lib.hid ((Exc.of_below (R:=P) HB2.out).then hx3)
 have HZ3:=Lib.hid (blk_exc HZ2.out hx3 (blk_lt HZ2.out) (by omega))
 obtain ⟨hz,z0,z1,z2,y0,y1,y2⟩:=blk3 HZ3.out
 clear hd3 hx3
 go_wp2
 refine post_gen (fun Wf=>Wf.heap[w.heap.size]?=some (.cells #[.int .i64 0,.string ByteArray.empty,.int .i64 0] 97 (0,0))∧Exc P w.heap.size w Wf∧Dp Wf P g c l r (11,(hd r).place)) ⟨?_,?_,?_⟩ ?_
 · exact blk_set3 HZ3.out _ _ _
 · exact HX3.out.set3 (Nat.le_refl _) _ _ _
 · exact HD3.out.set3 (by omega) (by omega) _ _ _
 · rintro Wf ⟨f1,f2,f3⟩
   obtain ⟨_,c0,c1,c2,_⟩:=blk3 f1
   exact bodyPost_ret (v:=.agg #[.int .i64 0,.string ByteArray.empty,.int .i64 0]) (by simp [results,Tryz.results40,go_sem,c0,c1,c2]) rfl ⟨rfl,f3,f2⟩
theorem dname_badT (w:World)(P g c:Nat)(l r:List Tok)(t1:((hd r).kind != 1)=true)(t3:((hd r).kind==3)=false)(h:Dp w P g c l r (0,0)) :
  Calls Tryz.prog 40 #[.pointer (some ⟨P,0,none⟩),.bool true] w fun e w'=>e=.returned (tokV noTok)∧Dp w' P g c l r (11,(hd r).place)∧Exc P w.heap.size w w':=by
 have HZ0:=Lib.hid (heap_alloc_new w (.cells #[.int .i64 0,.string ByteArray.empty,.int .i64 0] 97))
 have hbA:Below w.heap.size w (w.alloc (.cells #[.int .i64 0,.string ByteArray.empty,.int .i64 0] 97)):=(Below.refl _ _).alloc (Nat.le_refl _) _
 have HBA:=Lib.hid hbA
 have HD:=Lib.hid (h.keep hbA)
 have HH:=Lib.hid (dhere_any _ P g c l r _ HD.out)
 have hP:=blk_lt h.blk
 have hg:=h.glt
 clear h hbA
 unfold tokV at HH
 go_enter Tryz.func40,Tryz.ntmps40
 go_wp2_with fail
 refine HH.out.mono ?_
 rintro e W1 ⟨rfl,hb1⟩
 have hW1:w.heap.size+1≤W1.heap.size:=Nat.le_trans (by simp) hb1.size
 have HB1:=Lib.hid (HBA.out.trans (hb1.mono HBA.out.size))
 have HT2:=Lib.hid (heap_alloc_new W1 (.cells #[.int .i64 (hd r).kind,.string (strOfNums (hd r).text),.int .i64 (hd r).place] 97))
 have hb2:Below W1.heap.size W1 (W1.alloc (.cells #[.int .i64 (hd r).kind,.string (strOfNums (hd r).text),.int .i64 (hd r).place] 97)):=(Below.refl _ _).alloc (Nat.le_refl _) _
 have HB2:=Lib.hid (HB1.out.trans (hb2.mono HB1.out.size))
 have HD2:=Lib.hid ((HD.out.keep hb1).keep hb2)
 have HZ2:=Lib.hid (blk_below (blk_below HZ0.out hb1 (by simp)) hb2 (by omega))
 have hT2:=blk_lt HT2.out
 have hTW:=hW1
 clear hb1 hb2
 go_upto_region 2 with (fail)
 generalize W1.alloc (.cells #[.int .i64 (hd r).kind,.string (strOfNums (hd r).text),.int .i64 (hd r).place] 97)=W2 at *
 generalize W1.heap.size=BT at *
 obtain ⟨hTl,x0,x1,x2,_⟩:=blk3 HT2.out
 obtain ⟨hPl,r0,r1,r2,r3,s1,s2,s3⟩:=blk4 HD2.out.blk
 simp only at r2 r3
 have HC:=Lib.hid (dbad_go W2 P g c l r 11 HD2.out)
 go_wp2_with fail
 refine HC.out.mono ?_
 rintro e W3 ⟨rfl,hd3,hx3⟩
 have HD3:=Lib.hid hd3
 have HX3:=Lib.hid ((Exc.of_below (R:=P) HB2.out).then hx3)
 have HZ3:=Lib.hid (blk_exc HZ2.out hx3 (blk_lt HZ2.out) (by omega))
 obtain ⟨hz,z0,z1,z2,y0,y1,y2⟩:=blk3 HZ3.out
 clear hd3 hx3
 go_wp2
 refine post_gen (fun Wf=>Wf.heap[w.heap.size]?=some (.cells #[.int .i64 0,.string ByteArray.empty,.int .i64 0] 97 (0,0))∧Exc P w.heap.size w Wf∧Dp Wf P g c l r (11,(hd r).place)) ⟨?_,?_,?_⟩ ?_
 · exact blk_set3 HZ3.out _ _ _
 · exact HX3.out.set3 (Nat.le_refl _) _ _ _
 · exact HD3.out.set3 (by omega) (by omega) _ _ _
 · rintro Wf ⟨f1,f2,f3⟩
   obtain ⟨_,c0,c1,c2,_⟩:=blk3 f1
   exact bodyPost_ret (v:=.agg #[.int .i64 0,.string ByteArray.empty,.int .i64 0]) (by simp [results,Tryz.results40,go_sem,c0,c1,c2]) rfl ⟨rfl,f3,f2⟩
theorem dname_noneN (w:World)(P g c:Nat)(l r:List Tok)(q:Bool)(t1:((hd r).kind != 1)=false)(t4:decide (((strOfNums (hd r).text).size:Int)<1)=true)(h:Dp w P g c l r (0,0)) :
  Calls Tryz.prog 40 #[.pointer (some ⟨P,0,none⟩),.bool q] w fun e w'=>e=.returned (tokV noTok)∧Dp w' P g c l r (12,(hd r).place)∧Exc P w.heap.size w w':=by
 have HZ0:=Lib.hid (heap_alloc_new w (.cells #[.int .i64 0,.string ByteArray.empty,.int .i64 0] 97))
 have hbA:Below w.heap.size w (w.alloc (.cells #[.int .i64 0,.string ByteArray.empty,.int .i64 0] 97)):=(Below.refl _ _).alloc (Nat.le_refl _) _
 have HBA:=Lib.hid hbA
 have HD:=Lib.hid (h.keep hbA)
 have HH:=Lib.hid (dhere_any _ P g c l r _ HD.out)
 have hP:=blk_lt h.blk
 have hg:=h.glt
 clear h hbA
 unfold tokV at HH
 go_enter Tryz.func40,Tryz.ntmps40
 go_wp2_with fail
 refine HH.out.mono ?_
 rintro e W1 ⟨rfl,hb1⟩
 have hW1:w.heap.size+1≤W1.heap.size:=Nat.le_trans (by simp) hb1.size
 have HB1:=Lib.hid (HBA.out.trans (hb1.mono HBA.out.size))
 have HT2:=Lib.hid (heap_alloc_new W1 (.cells #[.int .i64 (hd r).kind,.string (strOfNums (hd r).text),.int .i64 (hd r).place] 97))
 have hb2:Below W1.heap.size W1 (W1.alloc (.cells #[.int .i64 (hd r).kind,.string (strOfNums (hd r).text),.int .i64 (hd r).place] 97)):=(Below.refl _ _).alloc (Nat.le_refl _) _
 have HB2:=Lib.hid (HB1.out.trans (hb2.mono HB1.out.size))
 have HD2:=Lib.hid ((HD.out.keep hb1).keep hb2)
 have HZ2:=Lib.hid (blk_below (blk_below HZ0.out hb1 (by simp)) hb2 (by omega))
 have hT2:=blk_lt HT2.out
 have hTW:=hW1
 clear hb1 hb2
 go_upto_region 2 with (fail)
 generalize W1.alloc (.cells #[.int .i64 (hd r).kind,.string (strOfNums (hd r).text),.int .i64 (hd r).place] 97)=W2 at *
 generalize W1.heap.size=BT at *
 obtain ⟨hTl,x0,x1,x2,_⟩:=blk3 HT2.out
 obtain ⟨hPl,r0,r1,r2,r3,s1,s2,s3⟩:=blk4 HD2.out.blk
 simp only at r2 r3
 have HC:=Lib.hid (dbad_go W2 P g c l r 12 HD2.out)
 go_wp2_with fail
 refine HC.out.mono ?_
 rintro e W3 ⟨rfl,hd3,hx3⟩
 have HD3:=Lib.hid hd3
 have HX3:=Lib.hid ((Exc.of_below (R:=P) HB2.out).then hx3)
 have HZ3:=Lib.hid (blk_exc HZ2.out hx3 (blk_lt HZ2.out) (by omega))
 obtain ⟨hz,z0,z1,z2,y0,y1,y2⟩:=blk3 HZ3.out
 clear hd3 hx3
 go_wp2
 refine post_gen (fun Wf=>Wf.heap[w.heap.size]?=some (.cells #[.int .i64 0,.string ByteArray.empty,.int .i64 0] 97 (0,0))∧Exc P w.heap.size w Wf∧Dp Wf P g c l r (12,(hd r).place)) ⟨?_,?_,?_⟩ ?_
 · exact blk_set3 HZ3.out _ _ _
 · exact HX3.out.set3 (Nat.le_refl _) _ _ _
 · exact HD3.out.set3 (by omega) (by omega) _ _ _
 · rintro Wf ⟨f1,f2,f3⟩
   obtain ⟨_,c0,c1,c2,_⟩:=blk3 f1
   exact bodyPost_ret (v:=.agg #[.int .i64 0,.string ByteArray.empty,.int .i64 0]) (by simp [results,Tryz.results40,go_sem,c0,c1,c2]) rfl ⟨rfl,f3,f2⟩
theorem dname_noneQ (w:World)(P g c:Nat)(l r:List Tok)(t1:((hd r).kind != 1)=true)(t3:((hd r).kind==3)=true)(t4:decide (((strOfNums (hd r).text).size:Int)<1)=true)(h:Dp w P g c l r (0,0)) :
  Calls Tryz.prog 40 #[.pointer (some ⟨P,0,none⟩),.bool true] w fun e w'=>e=.returned (tokV noTok)∧Dp w' P g c l r (12,(hd r).place)∧Exc P w.heap.size w w':=by
 have HZ0:=Lib.hid (heap_alloc_new w (.cells #[.int .i64 0,.string ByteArray.empty,.int .i64 0] 97))
 have hbA:Below w.heap.size w (w.alloc (.cells #[.int .i64 0,.string ByteArray.empty,.int .i64 0] 97)):=(Below.refl _ _).alloc (Nat.le_refl _) _
 have HBA:=Lib.hid hbA
 have HD:=Lib.hid (h.keep hbA)
 have HH:=Lib.hid (dhere_any _ P g c l r _ HD.out)
 have hP:=blk_lt h.blk
 have hg:=h.glt
 clear h hbA
 unfold tokV at HH
 go_enter Tryz.func40,Tryz.ntmps40
 go_wp2_with fail
 refine HH.out.mono ?_
 rintro e W1 ⟨rfl,hb1⟩
 have hW1:w.heap.size+1≤W1.heap.size:=Nat.le_trans (by simp) hb1.size
 have HB1:=Lib.hid (HBA.out.trans (hb1.mono HBA.out.size))
 have HT2:=Lib.hid (heap_alloc_new W1 (.cells #[.int .i64 (hd r).kind,.string (strOfNums (hd r).text),.int .i64 (hd r).place] 97))
 have hb2:Below W1.heap.size W1 (W1.alloc (.cells #[.int .i64 (hd r).kind,.string (strOfNums (hd r).text),.int .i64 (hd r).place] 97)):=(Below.refl _ _).alloc (Nat.le_refl _) _
 have HB2:=Lib.hid (HB1.out.trans (hb2.mono HB1.out.size))
 have HD2:=Lib.hid ((HD.out.keep hb1).keep hb2)
 have HZ2:=Lib.hid (blk_below (blk_below HZ0.out hb1 (by simp)) hb2 (by omega))
 have hT2:=blk_lt HT2.out
 have hTW:=hW1
 clear hb1 hb2
 go_upto_region 2 with (fail)
 generalize W1.alloc (.cells #[.int .i64 (hd r).kind,.string (strOfNums (hd r).text),.int .i64 (hd r).place] 97)=W2 at *
 generalize W1.heap.size=BT at *
 obtain ⟨hTl,x0,x1,x2,_⟩:=blk3 HT2.out
 obtain ⟨hPl,r0,r1,r2,r3,s1,s2,s3⟩:=blk4 HD2.out.blk
 simp only at r2 r3
 have HC:=Lib.hid (dbad_go W2 P g c l r 12 HD2.out)
 go_wp2_with fail
 refine HC.out.mono ?_
 rintro e W3 ⟨rfl,hd3,hx3⟩
 have HD3:=Lib.hid hd3
 have HX3:=Lib.hid ((Exc.of_below (R:=P) HB2.out).then hx3)
 have HZ3:=Lib.hid (blk_exc HZ2.out hx3 (blk_lt HZ2.out) (by omega))
 obtain ⟨hz,z0,z1,z2,y0,y1,y2⟩:=blk3 HZ3.out
 clear hd3 hx3
 go_wp2
 refine post_gen (fun Wf=>Wf.heap[w.heap.size]?=some (.cells #[.int .i64 0,.string ByteArray.empty,.int .i64 0] 97 (0,0))∧Exc P w.heap.size w Wf∧Dp Wf P g c l r (12,(hd r).place)) ⟨?_,?_,?_⟩ ?_
 · exact blk_set3 HZ3.out _ _ _
 · exact HX3.out.set3 (Nat.le_refl _) _ _ _
 · exact HD3.out.set3 (by omega) (by omega) _ _ _
 · rintro Wf ⟨f1,f2,f3⟩
   obtain ⟨_,c0,c1,c2,_⟩:=blk3 f1
   exact bodyPost_ret (v:=.agg #[.int .i64 0,.string ByteArray.empty,.int .i64 0]) (by simp [results,Tryz.results40,go_sem,c0,c1,c2]) rfl ⟨rfl,f3,f2⟩
theorem dname_longN (w:World)(P g c:Nat)(l r:List Tok)(q:Bool)(t1:((hd r).kind != 1)=false)(t4:decide (((strOfNums (hd r).text).size:Int)<1)=false)(t5:decide ((40:Int)<((strOfNums (hd r).text).size:Int))=true)(h:Dp w P g c l r (0,0)) :
  Calls Tryz.prog 40 #[.pointer (some ⟨P,0,none⟩),.bool q] w fun e w'=>e=.returned (tokV noTok)∧Dp w' P g c l r (12,(hd r).place)∧Exc P w.heap.size w w':=by
 have HZ0:=Lib.hid (heap_alloc_new w (.cells #[.int .i64 0,.string ByteArray.empty,.int .i64 0] 97))
 have hbA:Below w.heap.size w (w.alloc (.cells #[.int .i64 0,.string ByteArray.empty,.int .i64 0] 97)):=(Below.refl _ _).alloc (Nat.le_refl _) _
 have HBA:=Lib.hid hbA
 have HD:=Lib.hid (h.keep hbA)
 have HH:=Lib.hid (dhere_any _ P g c l r _ HD.out)
 have hP:=blk_lt h.blk
 have hg:=h.glt
 clear h hbA
 unfold tokV at HH
 go_enter Tryz.func40,Tryz.ntmps40
 go_wp2_with fail
 refine HH.out.mono ?_
 rintro e W1 ⟨rfl,hb1⟩
 have hW1:w.heap.size+1≤W1.heap.size:=Nat.le_trans (by simp) hb1.size
 have HB1:=Lib.hid (HBA.out.trans (hb1.mono HBA.out.size))
 have HT2:=Lib.hid (heap_alloc_new W1 (.cells #[.int .i64 (hd r).kind,.string (strOfNums (hd r).text),.int .i64 (hd r).place] 97))
 have hb2:Below W1.heap.size W1 (W1.alloc (.cells #[.int .i64 (hd r).kind,.string (strOfNums (hd r).text),.int .i64 (hd r).place] 97)):=(Below.refl _ _).alloc (Nat.le_refl _) _
 have HB2:=Lib.hid (HB1.out.trans (hb2.mono HB1.out.size))
 have HD2:=Lib.hid ((HD.out.keep hb1).keep hb2)
 have HZ2:=Lib.hid (blk_below (blk_below HZ0.out hb1 (by simp)) hb2 (by omega))
 have hT2:=blk_lt HT2.out
 have hTW:=hW1
 clear hb1 hb2
 go_upto_region 2 with (fail)
 generalize W1.alloc (.cells #[.int .i64 (hd r).kind,.string (strOfNums (hd r).text),.int .i64 (hd r).place] 97)=W2 at *
 generalize W1.heap.size=BT at *
 obtain ⟨hTl,x0,x1,x2,_⟩:=blk3 HT2.out
 obtain ⟨hPl,r0,r1,r2,r3,s1,s2,s3⟩:=blk4 HD2.out.blk
 simp only at r2 r3
 have HC:=Lib.hid (dbad_go W2 P g c l r 12 HD2.out)
 go_wp2_with fail
 refine HC.out.mono ?_
 rintro e W3 ⟨rfl,hd3,hx3⟩
 have HD3:=Lib.hid hd3
 have HX3:=Lib.hid ((Exc.of_below (R:=P) HB2.out).then hx3)
 have HZ3:=Lib.hid (blk_exc HZ2.out hx3 (blk_lt HZ2.out) (by omega))
 obtain ⟨hz,z0,z1,z2,y0,y1,y2⟩:=blk3 HZ3.out
 clear hd3 hx3
 go_wp2
 refine post_gen (fun Wf=>Wf.heap[w.heap.size]?=some (.cells #[.int .i64 0,.string ByteArray.empty,.int .i64 0] 97 (0,0))∧Exc P w.heap.size w Wf∧Dp Wf P g c l r (12,(hd r).place)) ⟨?_,?_,?_⟩ ?_
 · exact blk_set3 HZ3.out _ _ _
 · exact HX3.out.set3 (Nat.le_refl _) _ _ _
 · exact HD3.out.set3 (by omega) (by omega) _ _ _
 · rintro Wf ⟨f1,f2,f3⟩
   obtain ⟨_,c0,c1,c2,_⟩:=blk3 f1
   exact bodyPost_ret (v:=.agg #[.int .i64 0,.string ByteArray.empty,.int .i64 0]) (by simp [results,Tryz.results40,go_sem,c0,c1,c2]) rfl ⟨rfl,f3,f2⟩
theorem dname_longQ (w:World)(P g c:Nat)(l r:List Tok)(t1:((hd r).kind != 1)=true)(t3:((hd r).kind==3)=true)(t4:decide (((strOfNums (hd r).text).size:Int)<1)=false)(t5:decide ((40:Int)<((strOfNums (hd r).text).size:Int))=true)(h:Dp w P g c l r (0,0)) :
  Calls Tryz.prog 40 #[.pointer (some ⟨P,0,none⟩),.bool true] w fun e w'=>e=.returned (tokV noTok)∧Dp w' P g c l r (12,(hd r).place)∧Exc P w.heap.size w w':=by
 have HZ0:=Lib.hid (heap_alloc_new w (.cells #[.int .i64 0,.string ByteArray.empty,.int .i64 0] 97))
 have hbA:Below w.heap.size w (w.alloc (.cells #[.int .i64 0,.string ByteArray.empty,.int .i64 0] 97)):=(Below.refl _ _).alloc (Nat.le_refl _) _
 have HBA:=Lib.hid hbA
 have HD:=Lib.hid (h.keep hbA)
 have HH:=Lib.hid (dhere_any _ P g c l r _ HD.out)
 have hP:=blk_lt h.blk
 have hg:=h.glt
 clear h hbA
 unfold tokV at HH
 go_enter Tryz.func40,Tryz.ntmps40
 go_wp2_with fail
 refine HH.out.mono ?_
 rintro e W1 ⟨rfl,hb1⟩
 have hW1:w.heap.size+1≤W1.heap.size:=Nat.le_trans (by simp) hb1.size
 have HB1:=Lib.hid (HBA.out.trans (hb1.mono HBA.out.size))
 have HT2:=Lib.hid (heap_alloc_new W1 (.cells #[.int .i64 (hd r).kind,.string (strOfNums (hd r).text),.int .i64 (hd r).place] 97))
 have hb2:Below W1.heap.size W1 (W1.alloc (.cells #[.int .i64 (hd r).kind,.string (strOfNums (hd r).text),.int .i64 (hd r).place] 97)):=(Below.refl _ _).alloc (Nat.le_refl _) _
 have HB2:=Lib.hid (HB1.out.trans (hb2.mono HB1.out.size))
 have HD2:=Lib.hid ((HD.out.keep hb1).keep hb2)
 have HZ2:=Lib.hid (blk_below (blk_below HZ0.out hb1 (by simp)) hb2 (by omega))
 have hT2:=blk_lt HT2.out
 have hTW:=hW1
 clear hb1 hb2
 go_upto_region 2 with (fail)
 generalize W1.alloc (.cells #[.int .i64 (hd r).kind,.string (strOfNums (hd r).text),.int .i64 (hd r).place] 97)=W2 at *
 generalize W1.heap.size=BT at *
 obtain ⟨hTl,x0,x1,x2,_⟩:=blk3 HT2.out
 obtain ⟨hPl,r0,r1,r2,r3,s1,s2,s3⟩:=blk4 HD2.out.blk
 simp only at r2 r3
 have HC:=Lib.hid (dbad_go W2 P g c l r 12 HD2.out)
 go_wp2_with fail
 refine HC.out.mono ?_
 rintro e W3 ⟨rfl,hd3,hx3⟩
 have HD3:=Lib.hid hd3
 have HX3:=Lib.hid ((Exc.of_below (R:=P) HB2.out).then hx3)
 have HZ3:=Lib.hid (blk_exc HZ2.out hx3 (blk_lt HZ2.out) (by omega))
 obtain ⟨hz,z0,z1,z2,y0,y1,y2⟩:=blk3 HZ3.out
 clear hd3 hx3
 go_wp2
 refine post_gen (fun Wf=>Wf.heap[w.heap.size]?=some (.cells #[.int .i64 0,.string ByteArray.empty,.int .i64 0] 97 (0,0))∧Exc P w.heap.size w Wf∧Dp Wf P g c l r (12,(hd r).place)) ⟨?_,?_,?_⟩ ?_
 · exact blk_set3 HZ3.out _ _ _
 · exact HX3.out.set3 (Nat.le_refl _) _ _ _
 · exact HD3.out.set3 (by omega) (by omega) _ _ _
 · rintro Wf ⟨f1,f2,f3⟩
   obtain ⟨_,c0,c1,c2,_⟩:=blk3 f1
   exact bodyPost_ret (v:=.agg #[.int .i64 0,.string ByteArray.empty,.int .i64 0]) (by simp [results,Tryz.results40,go_sem,c0,c1,c2]) rfl ⟨rfl,f3,f2⟩
theorem dname_fitsN (w:World)(P g c:Nat)(l r:List Tok)(q:Bool)(t1:((hd r).kind != 1)=false)(h0:(hd r).kind≠0)(t4:decide (((strOfNums (hd r).text).size:Int)<1)=false)(t5:decide ((40:Int)<((strOfNums (hd r).text).size:Int))=false)(h:Dp w P g c l r (0,0)) :
  Calls Tryz.prog 40 #[.pointer (some ⟨P,0,none⟩),.bool q] w fun e w'=>e=.returned (tokV (hd r))∧Dp w' P g c l r.tail (0,0)∧Exc P w.heap.size w w':=by
 have H0:=Lib.hid h0
 clear h0
 have HZ0:=Lib.hid (heap_alloc_new w (.cells #[.int .i64 0,.string ByteArray.empty,.int .i64 0] 97))
 have hbA:Below w.heap.size w (w.alloc (.cells #[.int .i64 0,.string ByteArray.empty,.int .i64 0] 97)):=(Below.refl _ _).alloc (Nat.le_refl _) _
 have HBA:=Lib.hid hbA
 have HD:=Lib.hid (h.keep hbA)
 have HH:=Lib.hid (dhere_any _ P g c l r _ HD.out)
 have hP:=blk_lt h.blk
 have hg:=h.glt
 clear h hbA
 unfold tokV at HH
 go_enter Tryz.func40,Tryz.ntmps40
 go_wp2_with fail
 refine HH.out.mono ?_
 rintro e W1 ⟨rfl,hb1⟩
 have hW1:w.heap.size+1≤W1.heap.size:=Nat.le_trans (by simp) hb1.size
 have HB1:=Lib.hid (HBA.out.trans (hb1.mono HBA.out.size))
 have HT2:=Lib.hid (heap_alloc_new W1 (.cells #[.int .i64 (hd r).kind,.string (strOfNums (hd r).text),.int .i64 (hd r).place] 97))
 have hb2:Below W1.heap.size W1 (W1.alloc (.cells #[.int .i64 (hd r).kind,.string (strOfNums (hd r).text),.int .i64 (hd r).place] 97)):=(Below.refl _ _).alloc (Nat.le_refl _) _
 have HB2:=Lib.hid (HB1.out.trans (hb2.mono HB1.out.size))
 have HD2:=Lib.hid ((HD.out.keep hb1).keep hb2)
 have HZ2:=Lib.hid (blk_below (blk_below HZ0.out hb1 (by simp)) hb2 (by omega))
 have hT2:=blk_lt HT2.out
 have hTW:=hW1
 clear hb1 hb2
 go_upto_region 2 with (fail)
 generalize W1.alloc (.cells #[.int .i64 (hd r).kind,.string (strOfNums (hd r).text),.int .i64 (hd r).place] 97)=W2 at *
 generalize W1.heap.size=BT at *
 obtain ⟨hTl,x0,x1,x2,_⟩:=blk3 HT2.out
 obtain ⟨hPl,r0,r1,r2,r3,s1,s2,s3⟩:=blk4 HD2.out.blk
 simp only at r2 r3
 have hfew:=HD2.out.few
 have hn:=HD2.out.len
 go_upto_region 11 with (fail)
 have HD3:=Lib.hid (dp_next HD2.out H0.out)
 have hx3:Exc P W2.heap.size W2 (W2.setCell ⟨P,1,none⟩ (.int .i64 (((l.length-r.length:Nat):Int)+1))):=exc_set _ _ _ _
 have HX3:=Lib.hid ((Exc.of_below (R:=P) HB2.out).then hx3)
 have HZ3:=Lib.hid (blk_exc HZ2.out hx3 (blk_lt HZ2.out) (by omega))
 have HT3:=Lib.hid (blk_exc HT2.out hx3 (blk_lt HT2.out) (by omega))
 clear hx3 r0 r1 r2 r3 s1 s2 s3 x0 x1 x2
 generalize W2.setCell ⟨P,1,none⟩ (.int .i64 (((l.length-r.length:Nat):Int)+1))=W3 at *
 obtain ⟨hTl,x0,x1,x2,_⟩:=blk3 HT3.out
 obtain ⟨hz,z0,z1,z2,y0,y1,y2⟩:=blk3 HZ3.out
 go_wp2
 refine post_gen (fun Wf=>Wf.heap[w.heap.size]?=some (.cells #[.int .i64 (hd r).kind,.string (strOfNums (hd r).text),.int .i64 (hd r).place] 97 (0,0))∧Exc P w.heap.size w Wf∧Dp Wf P g c l r.tail (0,0)) ⟨?_,?_,?_⟩ ?_
 · exact blk_set3 HZ3.out _ _ _
 · exact HX3.out.set3 (Nat.le_refl _) _ _ _
 · exact HD3.out.set3 (by omega) (by omega) _ _ _
 · rintro Wf ⟨f1,f2,f3⟩
   obtain ⟨_,c0,c1,c2,_⟩:=blk3 f1
   exact bodyPost_ret (v:=.agg #[.int .i64 (hd r).kind,.string (strOfNums (hd r).text),.int .i64 (hd r).place]) (by simp [results,Tryz.results40,go_sem,c0,c1,c2]) rfl ⟨rfl,f3,f2⟩
theorem dname_fitsQ (w:World)(P g c:Nat)(l r:List Tok)(t1:((hd r).kind != 1)=true)(t3:((hd r).kind==3)=true)(h0:(hd r).kind≠0)(t4:decide (((strOfNums (hd r).text).size:Int)<1)=false)(t5:decide ((40:Int)<((strOfNums (hd r).text).size:Int))=false)(h:Dp w P g c l r (0,0)) :
  Calls Tryz.prog 40 #[.pointer (some ⟨P,0,none⟩),.bool true] w fun e w'=>e=.returned (tokV (hd r))∧Dp w' P g c l r.tail (0,0)∧Exc P w.heap.size w w':=by
 have H0:=Lib.hid h0
 clear h0
 have HZ0:=Lib.hid (heap_alloc_new w (.cells #[.int .i64 0,.string ByteArray.empty,.int .i64 0] 97))
 have hbA:Below w.heap.size w (w.alloc (.cells #[.int .i64 0,.string ByteArray.empty,.int .i64 0] 97)):=(Below.refl _ _).alloc (Nat.le_refl _) _
 have HBA:=Lib.hid hbA
 have HD:=Lib.hid (h.keep hbA)
 have HH:=Lib.hid (dhere_any _ P g c l r _ HD.out)
 have hP:=blk_lt h.blk
 have hg:=h.glt
 clear h hbA
 unfold tokV at HH
 go_enter Tryz.func40,Tryz.ntmps40
 go_wp2_with fail
 refine HH.out.mono ?_
 rintro e W1 ⟨rfl,hb1⟩
 have hW1:w.heap.size+1≤W1.heap.size:=Nat.le_trans (by simp) hb1.size
 have HB1:=Lib.hid (HBA.out.trans (hb1.mono HBA.out.size))
 have HT2:=Lib.hid (heap_alloc_new W1 (.cells #[.int .i64 (hd r).kind,.string (strOfNums (hd r).text),.int .i64 (hd r).place] 97))
 have hb2:Below W1.heap.size W1 (W1.alloc (.cells #[.int .i64 (hd r).kind,.string (strOfNums (hd r).text),.int .i64 (hd r).place] 97)):=(Below.refl _ _).alloc (Nat.le_refl _) _
 have HB2:=Lib.hid (HB1.out.trans (hb2.mono HB1.out.size))
 have HD2:=Lib.hid ((HD.out.keep hb1).keep hb2)
 have HZ2:=Lib.hid (blk_below (blk_below HZ0.out hb1 (by simp)) hb2 (by omega))
 have hT2:=blk_lt HT2.out
 have hTW:=hW1
 clear hb1 hb2
 go_upto_region 2 with (fail)
 generalize W1.alloc (.cells #[.int .i64 (hd r).kind,.string (strOfNums (hd r).text),.int .i64 (hd r).place] 97)=W2 at *
 generalize W1.heap.size=BT at *
 obtain ⟨hTl,x0,x1,x2,_⟩:=blk3 HT2.out
 obtain ⟨hPl,r0,r1,r2,r3,s1,s2,s3⟩:=blk4 HD2.out.blk
 simp only at r2 r3
 have hfew:=HD2.out.few
 have hn:=HD2.out.len
 go_upto_region 11 with (fail)
 have HD3:=Lib.hid (dp_next HD2.out H0.out)
 have hx3:Exc P W2.heap.size W2 (W2.setCell ⟨P,1,none⟩ (.int .i64 (((l.length-r.length:Nat):Int)+1))):=exc_set _ _ _ _
 have HX3:=Lib.hid ((Exc.of_below (R:=P) HB2.out).then hx3)
 have HZ3:=Lib.hid (blk_exc HZ2.out hx3 (blk_lt HZ2.out) (by omega))
 have HT3:=Lib.hid (blk_exc HT2.out hx3 (blk_lt HT2.out) (by omega))
 clear hx3 r0 r1 r2 r3 s1 s2 s3 x0 x1 x2
 generalize W2.setCell ⟨P,1,none⟩ (.int .i64 (((l.length-r.length:Nat):Int)+1))=W3 at *
 obtain ⟨hTl,x0,x1,x2,_⟩:=blk3 HT3.out
 obtain ⟨hz,z0,z1,z2,y0,y1,y2⟩:=blk3 HZ3.out
 go_wp2
 refine post_gen (fun Wf=>Wf.heap[w.heap.size]?=some (.cells #[.int .i64 (hd r).kind,.string (strOfNums (hd r).text),.int .i64 (hd r).place] 97 (0,0))∧Exc P w.heap.size w Wf∧Dp Wf P g c l r.tail (0,0)) ⟨?_,?_,?_⟩ ?_
 · exact blk_set3 HZ3.out _ _ _
 · exact HX3.out.set3 (Nat.le_refl _) _ _ _
 · exact HD3.out.set3 (by omega) (by omega) _ _ _
 · rintro Wf ⟨f1,f2,f3⟩
   obtain ⟨_,c0,c1,c2,_⟩:=blk3 f1
   exact bodyPost_ret (v:=.agg #[.int .i64 (hd r).kind,.string (strOfNums (hd r).text),.int .i64 (hd r).place]) (by simp [results,Tryz.results40,go_sem,c0,c1,c2]) rfl ⟨rfl,f3,f2⟩
end Go.Proofs.YtokhnoogkdlidaaGreatDoor
namespace Go.Proofs.YtokhnoogkdlidaaGreatDoor
open Go.ChangeShapes Go.WideShapes Go.ChangeAt Go.RowKit
def numCells:DataW Unit→Array Value
 | .agg parts=>(parts.filterMap fun|.lit (.int k n)=>some (Value.int k n)|_=>none).toArray
 | _=>#[]
def withCells (cs:Array Value):Obj→Obj
 | .cells _ t frozen=>.cells cs t frozen
 | o=>o
noncomputable def lowBlock:Nat:=(World.holding Tryz.prog default ⟨#[],#[],[]⟩).heap.size
noncomputable def laidWorld (os:Os):World:=
 { World.holding Tryz.prog os ⟨#[.cells #[.string ⟨#[118,97,108,117,101,32,111,117,116,32,111,102,32,114,97,110,103,101]⟩] 228,.cells #[.string ⟨#[105,110,118,97,108,105,100,32,115,121,110,116,97,120]⟩] 228],#[],[]⟩ with
  heap:=(((((((World.holding Tryz.prog os ⟨#[.cells #[.string ⟨#[118,97,108,117,101,32,111,117,116,32,111,102,32,114,97,110,103,101]⟩] 228,.cells #[.string ⟨#[105,110,118,97,108,105,100,32,115,121,110,116,97,120]⟩] 228],#[],[]⟩).heap.modify 1 (withCells (Lib.firstTab.map (Value.int .u8)).toArray)).modify 2 (withCells ((List.range 32).map fun i=>Value.int .u8 (if i % 2=0 then Lib.accLo (i / 2) else Lib.accHi (i / 2))).toArray)).modify
   5 (withCells (numCells Rows.laid_internal_strconv_uint64pow10))).modify
   6 (withCells (numCells Rows.laid_math_bits_deBruijn32tab))).modify
   7 (withCells (numCells Rows.laid_math_bits_deBruijn64tab))).modify
   4 (withCells #[.iface 226 (.pointer (some ⟨lowBlock,0,none⟩))])).modify
   3 (withCells #[.iface 226 (.pointer (some ⟨lowBlock+1,0,none⟩))]) }
abbrev laid7:List (String × DataW Unit):=[("math/bits.deBruijn32tab",Rows.laid_math_bits_deBruijn32tab),("math/bits.deBruijn64tab",Rows.laid_math_bits_deBruijn64tab),("internal/strconv.uint64pow10",Rows.laid_internal_strconv_uint64pow10),("unicode/utf8.acceptRanges",Rows.laid_unicode_utf8_acceptRanges),("strconv.ErrRange",Rows.laid_strconv_ErrRange),("strconv.ErrSyntax",Rows.laid_strconv_ErrSyntax),("unicode/utf8.first",Rows.laid_unicode_utf8_first)]
theorem laid7_met (os:Os)(args:Array Value):laidMet Tryz.prog laid7 ((laidWorld os).forCall (fun _ _=>0) ⟨#[],args,[]⟩).memory:=
 laidMet_of_run' 8 (by kernel_rfl) (by kernel_rfl)
theorem laid7_plain {W:World}(h:laidMetH Tryz.prog laid7 W):laidMet Tryz.prog laid7 W:=h
theorem tabs_of_laid7 {W:World}(h:laidMetH Tryz.prog laid7 W):Tabs W:=by
 have h':=laid7_plain h
 refine utf8Tabs_of_readsT u8types u8extra ?_ ?_
 · rw [←first_is];exact Lib.laidMet.reads h' (by simp)
 · rw [←accept_is];exact Lib.laidMet.reads h' (by simp)
theorem err_star : "*" ++ "errors.errorString" = "*errors.errorString" := by decide
theorem err_row (u:TypeId)(h:Tryz.prog.typeName? 3 u=some "*errors.errorString"):u=226:=
 typeName_ptr_named (nm := "errors.errorString") (by rw [err_star];kernel_rfl) (by kernel_rfl) (by decide) u (by rw [err_star];exact h)
theorem errV_of_laid7 {W:World}(h:laidMetH Tryz.prog laid7 W):ErrV W:=by
 have h':=laid7_plain h
 obtain ⟨a,s,hv,_,_,_⟩:=laid_sentinel (g:=4) (ti:=207) h'.tail.tail.tail.tail (by kernel_rfl) (by kernel_rfl) Tryz.underlying207 err_row Tryz.underlying226 Tryz.underlying228 rfl rfl Tryz.underlying9 (by kernel_rfl) (by kernel_rfl)
 have hg:Tryz.prog.globalNamed "strconv.ErrRange" = some 4 := by kernel_rfl
 exact ⟨_,_,by simpa using World.var?_cell hg hv 0⟩
end Go.Proofs.YtokhnoogkdlidaaGreatDoor
