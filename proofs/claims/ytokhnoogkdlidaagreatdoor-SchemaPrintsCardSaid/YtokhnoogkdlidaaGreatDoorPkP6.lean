/-
  The reader of the package idl: name, label, value. Conditions: those that each theorem names.
-/
import Derived.Test.YtokhnoogkdlidaaGreatDoorPkP4
namespace Go.Proofs.YtokhnoogkdlidaaGreatDoor
open Go.ChangeShapes Go.WideShapes Go.ChangeAt Go.RowKit Go.Shelf
def Says {α:Type}(x:Res α)(a:α)(r:List Tok)(F:Int × Nat)(ok:Bool):Prop:=
 match x with
 | .ok a' r'=>ok=true∧a=a'∧r=r'∧F=(0,0)
 | .no c p=>ok=false∧F=(c,p)
def PostR {α:Type}(enc:α→Value)(R g c:Nat)(l:List Tok)(w:World)(x:Res α)(e:Ending)(w':World):Prop:=
 ∃ a r F ok,e=.returned (.tuple #[enc a,.bool ok])∧Rd w' R g c l r F∧Exc R w.heap.size w w'∧Says x a r F ok
def PostB (R g c:Nat)(l:List Tok)(w:World)(x:Res Unit)(e:Ending)(w':World):Prop:=
 ∃ r F ok,e=.returned (.bool ok)∧Rd w' R g c l r F∧Exc R w.heap.size w w'∧Says x () r F ok
theorem skip_any (w:World)(R g c:Nat)(l r:List Tok)(F:Int × Nat)(k:Int)(S:ByteArray)(s:List Int)(hs:bts S=s)(hk:k≠0)(h:Rd w R g c l r F) :
  Calls Tryz.prog 125 #[.pointer (some ⟨R,0,none⟩),.int .i64 k,.string S] w fun e w'=>e=.returned (.bool (isT k s r))∧Rd w' R g c l (if isT k s r=true then r.tail else r) F∧Exc R w.heap.size w w':=by
 have HS:=Lib.hid (rdStands_any w R g c l r F k S s hs h)
 have HD:=Lib.hid h
 clear hs h
 obtain ⟨b,hb⟩:∃ b,isT k s r=b:=⟨_,rfl⟩
 rw [hb] at HS ⊢
 cases b
 · clear hb
   rw [if_neg (by decide)]
   go_enter Tryz.func125,Tryz.ntmps125
   go_wp2_with fail
   refine HS.out.mono ?_
   rintro e W1 ⟨rfl,hb1⟩
   have HB1:=Lib.hid hb1
   clear hb1
   go_wp2
   go_ret
   exact ⟨rfl,HD.out.keep HB1.out,.of_below HB1.out⟩
 · have HK:=Lib.hid (show (hd r).kind≠0 by rw [(isT_kind hb).1];exact hk)
   clear hb
   rw [if_pos rfl]
   go_enter Tryz.func125,Tryz.ntmps125
   go_wp2_with fail
   refine HS.out.mono ?_
   rintro e W1 ⟨rfl,hb1⟩
   have HB1:=Lib.hid hb1
   have HT:=Lib.hid (take_any W1 R g c l r F (HD.out.keep hb1) HK.out)
   clear hb1
   go_wp2_with fail
   refine HT.out.mono ?_
   rintro e W2 ⟨rfl,hr2,hx2⟩
   have HR2:=Lib.hid hr2
   have HX2:=Lib.hid hx2
   clear hr2 hx2
   go_wp2
   go_ret
   exact ⟨rfl,HR2.out,(Exc.of_below HB1.out).then HX2.out⟩
theorem sign_any (w:World)(R g c:Nat)(l r:List Tok)(F:Int × Nat)(S:ByteArray)(s:List Int)(hs:bts S=s)(h:Rd w R g c l r F) :
  Calls Tryz.prog 131 #[.pointer (some ⟨R,0,none⟩),.string S] w fun e w'=>e=.returned (.bool (isT 4 s r))∧Rd w' R g c l (if isT 4 s r=true then r.tail else r) F∧Exc R w.heap.size w w':=by
 have HS:=Lib.hid (skip_any w R g c l r F 4 S s hs (by decide) h)
 clear hs h
 generalize isT 4 s r=b at *
 obtain ⟨q,hq⟩:∃ q,(if b=true then r.tail else r)=q:=⟨_,rfl⟩
 rw [hq] at HS ⊢
 clear hq
 go_enter Tryz.func131,Tryz.ntmps131
 go_wp2_with fail
 refine HS.out.mono ?_
 rintro e W1 ⟨rfl,hr,hx⟩
 have HR:=Lib.hid hr
 have HX:=Lib.hid hx
 clear hr hx
 go_wp2
 go_ret
 exact ⟨rfl,HR.out,HX.out⟩
theorem word_any (w:World)(R g c:Nat)(l r:List Tok)(F:Int × Nat)(S:ByteArray)(s:List Int)(hs:bts S=s)(h:Rd w R g c l r F) :
  Calls Tryz.prog 104 #[.pointer (some ⟨R,0,none⟩),.string S] w fun e w'=>e=.returned (.bool (isT 1 s r))∧Rd w' R g c l (if isT 1 s r=true then r.tail else r) F∧Exc R w.heap.size w w':=by
 have HS:=Lib.hid (skip_any w R g c l r F 1 S s hs (by decide) h)
 clear hs h
 generalize isT 1 s r=b at *
 obtain ⟨q,hq⟩:∃ q,(if b=true then r.tail else r)=q:=⟨_,rfl⟩
 rw [hq] at HS ⊢
 clear hq
 go_enter Tryz.func104,Tryz.ntmps104
 go_wp2_with fail
 refine HS.out.mono ?_
 rintro e W1 ⟨rfl,hr,hx⟩
 have HR:=Lib.hid hr
 have HX:=Lib.hid hx
 clear hr hx
 go_wp2
 go_ret
 exact ⟨rfl,HR.out,HX.out⟩
theorem want_any (w:World)(R g c:Nat)(l r:List Tok)(S:ByteArray)(s:List Int)(hs:bts S=s)(h:Rd w R g c l r (0,0)) :
  Calls Tryz.prog 108 #[.pointer (some ⟨R,0,none⟩),.string S] w (PostB R g c l w (wantR s r)):=by
 have HS:=Lib.hid (sign_any w R g c l r (0,0) S s hs h)
 clear hs h
 unfold wantR
 generalize isT 4 s r=b at *
 cases b
 · rw [if_neg (by decide)] at HS ⊢
   unfold bad
   go_enter Tryz.func108,Tryz.ntmps108
   go_wp2_with fail
   refine HS.out.mono ?_
   rintro e W1 ⟨rfl,hr,hx⟩
   have HR:=Lib.hid (refuse_any W1 R g c l r (0,0) 11 hr)
   have HX:=Lib.hid hx
   clear hr hx
   go_wp2_with fail
   refine HR.out.mono ?_
   rintro e W2 ⟨rfl,hr,hx⟩
   have HR2:=Lib.hid hr
   have HX2:=Lib.hid hx
   clear hr hx
   go_wp2
   go_ret
   exact ⟨r,_,false,rfl,HR2.out,HX.out.then HX2.out,rfl,rfl⟩
 · rw [if_pos rfl] at HS ⊢
   go_enter Tryz.func108,Tryz.ntmps108
   go_wp2_with fail
   refine HS.out.mono ?_
   rintro e W1 ⟨rfl,hr,hx⟩
   have HR:=Lib.hid hr
   have HX:=Lib.hid hx
   clear hr hx
   go_wp2
   go_ret
   exact ⟨r.tail,_,true,rfl,HR.out,HX.out,rfl,rfl,rfl,rfl⟩
theorem sized_small (w:World)(R g c:Nat)(l r:List Tok)(h:Rd w R g c l r (0,0))(t12:(((strOfNums (hd r).text).size:Int)==0)=true∨((((strOfNums (hd r).text).size:Int)==0)=false∧decide ((40:Int)<((strOfNums (hd r).text).size:Int))=true)) :
  Calls Tryz.prog 130 #[.pointer (some ⟨R,0,none⟩)] w (PostR tokV R g c l w (bad 12 r)):=by
 have HB0:=Lib.hid (heap_alloc_new w (.cells #[.int .i64 0,.string ByteArray.empty,.int .i64 0] 97))
 have hbA:Below w.heap.size w (w.alloc (.cells #[.int .i64 0,.string ByteArray.empty,.int .i64 0] 97)):=(Below.refl _ _).alloc (Nat.le_refl _) _
 have HBA:=Lib.hid hbA
 have HD:=Lib.hid (h.keep hbA)
 have HH:=Lib.hid (here_any _ R g c l r (0,0) HD.out)
 have hR:=blk_lt h.blk
 have hg:=h.glt
 have hf:=fld1
 clear h hbA
 unfold tokV at HH
 unfold bad
 rcases t12 with t1|⟨t1,t2⟩
 all_goals
  go_enter Tryz.func130,Tryz.ntmps130
  go_wp2_with fail
  refine HH.out.mono ?_
  rintro e W1 ⟨rfl,hb1⟩
  have HB1:=Lib.hid (HBA.out.trans (hb1.mono HBA.out.size))
  have HT:=Lib.hid (refuse_any W1 R g c l r (0,0) 12 (HD.out.keep hb1))
  have HZ1:=Lib.hid (blk_below HB0.out hb1 (by simp))
  clear hb1
  go_wp2_with fail
  refine HT.out.mono ?_
  rintro e W2 ⟨rfl,hr2,hx2⟩
  have HR2:=Lib.hid hr2
  have HX2:=Lib.hid ((Exc.of_below HB1.out).then hx2)
  have HZ2:=Lib.hid (blk_exc HZ1.out hx2 (blk_lt HZ1.out) (by omega))
  obtain ⟨hz,z0,z1,z2,y0,y1,y2⟩:=blk3 HZ2.out
  clear hr2 hx2
  go_wp2
  refine post_gen (fun Wf=>Wf.heap[w.heap.size]?=some (.cells #[.int .i64 0,.string ByteArray.empty,.int .i64 0] 97 (0,0))∧Exc R w.heap.size w Wf∧Rd Wf R g c l r (12,(hd r).place)) ⟨?_,?_,?_⟩ ?_
  · exact blk_set3 HZ2.out _ _ _
  · exact HX2.out.set3 (Nat.le_refl _) _ _ _
  · exact HR2.out.set3 (by omega) (by omega) _ _ _
  · rintro Wf ⟨f1,f2,f3⟩
    obtain ⟨_,c0,c1,c2,_⟩:=blk3 f1
    exact bodyPost_ret (v:=.tuple #[.agg #[.int .i64 0,.string ByteArray.empty,.int .i64 0],.bool false]) (by simp [results,Tryz.results130,go_sem,c0,c1,c2]) rfl ⟨noTok,r,_,false,rfl,f3,f2,rfl,rfl⟩
theorem sized_fits (w:World)(R g c:Nat)(l r:List Tok)(h:Rd w R g c l r (0,0))(h0:(hd r).kind≠0)(t1:(((strOfNums (hd r).text).size:Int)==0)=false)(t2:decide ((40:Int)<((strOfNums (hd r).text).size:Int))=false) :
  Calls Tryz.prog 130 #[.pointer (some ⟨R,0,none⟩)] w (PostR tokV R g c l w (.ok (hd r) r.tail)):=by
 have HB0:=Lib.hid (heap_alloc_new w (.cells #[.int .i64 0,.string ByteArray.empty,.int .i64 0] 97))
 have hbA:Below w.heap.size w (w.alloc (.cells #[.int .i64 0,.string ByteArray.empty,.int .i64 0] 97)):=(Below.refl _ _).alloc (Nat.le_refl _) _
 have HBA:=Lib.hid hbA
 have HD:=Lib.hid (h.keep hbA)
 have HH:=Lib.hid (here_any _ R g c l r (0,0) HD.out)
 have hR:=blk_lt h.blk
 have hg:=h.glt
 have HZ:=Lib.hid h0
 have hf:=fld1
 clear h h0 hbA
 unfold tokV at HH
 go_enter Tryz.func130,Tryz.ntmps130
 go_wp2_with fail
 refine HH.out.mono ?_
 rintro e W1 ⟨rfl,hb1⟩
 have HB1:=Lib.hid (HBA.out.trans (hb1.mono HBA.out.size))
 have HT:=Lib.hid (take_any W1 R g c l r (0,0) (HD.out.keep hb1) HZ.out)
 have HZ1:=Lib.hid (blk_below HB0.out hb1 (by simp))
 clear hb1
 unfold tokV at HT
 go_wp2_with fail
 refine HT.out.mono ?_
 rintro e W2 ⟨rfl,hr2,hx2⟩
 have HR2:=Lib.hid hr2
 have HX2:=Lib.hid ((Exc.of_below HB1.out).then hx2)
 have HZ2:=Lib.hid (blk_exc HZ1.out hx2 (blk_lt HZ1.out) (by omega))
 obtain ⟨hz,z0,z1,z2,y0,y1,y2⟩:=blk3 HZ2.out
 clear hr2 hx2
 go_wp2
 refine post_gen (fun Wf=>Wf.heap[w.heap.size]?=some (.cells #[.int .i64 (hd r).kind,.string (strOfNums (hd r).text),.int .i64 (hd r).place] 97 (0,0))∧Exc R w.heap.size w Wf∧Rd Wf R g c l r.tail (0,0)) ⟨?_,?_,?_⟩ ?_
 · exact blk_set3 HZ2.out _ _ _
 · exact HX2.out.set3 (Nat.le_refl _) _ _ _
 · exact HR2.out.set3 (by omega) (by omega) _ _ _
 · rintro Wf ⟨f1,f2,f3⟩
   obtain ⟨_,c0,c1,c2,_⟩:=blk3 f1
   exact bodyPost_ret (v:=.tuple #[.agg #[.int .i64 (hd r).kind,.string (strOfNums (hd r).text),.int .i64 (hd r).place],.bool true]) (by simp [results,Tryz.results130,go_sem,c0,c1,c2]) rfl ⟨hd r,r.tail,_,true,rfl,f3,f2,rfl,rfl,rfl,rfl⟩
theorem sized_any (w:World)(R g c:Nat)(l r:List Tok)(h:Rd w R g c l r (0,0))(h0:(hd r).kind≠0) :
  Calls Tryz.prog 130 #[.pointer (some ⟨R,0,none⟩)] w (PostR tokV R g c l w (sizedR r)):=by
 have hsz:(strOfNums (hd r).text).size=(hd r).text.length:=strOfNums_size _
 by_cases hn:(hd r).text.length=0∨40<(hd r).text.length
 · rw [show sizedR r=bad 12 r from if_pos hn]
   refine sized_small w R g c l r h ?_
   rw [hsz]
   rcases Nat.eq_zero_or_pos (hd r).text.length with h|h
   · left;rw [h];rfl
   · right
     exact ⟨by simp;intro h';rw [h'] at h;simp at h,decide_eq_true (by omega)⟩
 · rw [show sizedR r=.ok (hd r) r.tail from if_neg hn]
   have n1:¬(hd r).text.length=0:=fun h=>hn (.inl h)
   have n2:¬40<(hd r).text.length:=fun h=>hn (.inr h)
   refine sized_fits w R g c l r h h0 ?_ ?_
   · rw [hsz];simp;intro h;rw [h] at n1;exact n1 rfl
   · rw [hsz];exact decide_eq_false (by omega)
end Go.Proofs.YtokhnoogkdlidaaGreatDoor
namespace Go.Proofs.YtokhnoogkdlidaaGreatDoor
open Go.ChangeShapes Go.WideShapes Go.ChangeAt Go.RowKit Go.Shelf
theorem name_bad (w:World)(R g c:Nat)(l r:List Tok)(h:Rd w R g c l r (0,0))(t1:((hd r).kind != 1)=true) :
  Calls Tryz.prog 107 #[.pointer (some ⟨R,0,none⟩)] w (PostR tokV R g c l w (bad 11 r)):=by
 have HB0:=Lib.hid (heap_alloc_new w (.cells #[.int .i64 0,.string ByteArray.empty,.int .i64 0] 97))
 have hbA:Below w.heap.size w (w.alloc (.cells #[.int .i64 0,.string ByteArray.empty,.int .i64 0] 97)):=(Below.refl _ _).alloc (Nat.le_refl _) _
 have HBA:=Lib.hid hbA
 have HD:=Lib.hid (h.keep hbA)
 have HH:=Lib.hid (here_any _ R g c l r (0,0) HD.out)
 have hR:=blk_lt h.blk
 have hg:=h.glt
 have hf:=fld0
 clear h hbA
 unfold tokV at HH
 unfold bad
 go_enter Tryz.func107,Tryz.ntmps107
 go_wp2_with fail
 refine HH.out.mono ?_
 rintro e W1 ⟨rfl,hb1⟩
 have HB1:=Lib.hid (HBA.out.trans (hb1.mono HBA.out.size))
 have HD1:=Lib.hid (HD.out.keep hb1)
 have HZ1:=Lib.hid (blk_below HB0.out hb1 (by simp))
 clear hb1
 have HT:=Lib.hid (refuse_any W1 R g c l r (0,0) 11 HD1.out)
 go_wp2_with fail
 refine HT.out.mono ?_
 rintro e W2 ⟨rfl,hr2,hx2⟩
 have HR2:=Lib.hid hr2
 have HX2:=Lib.hid ((Exc.of_below HB1.out).then hx2)
 have HZ2:=Lib.hid (blk_exc HZ1.out hx2 (blk_lt HZ1.out) (by omega))
 obtain ⟨hz,z0,z1,z2,y0,y1,y2⟩:=blk3 HZ2.out
 clear hr2 hx2
 go_wp2
 refine post_gen (fun Wf=>Wf.heap[w.heap.size]?=some (.cells #[.int .i64 0,.string ByteArray.empty,.int .i64 0] 97 (0,0))∧Exc R w.heap.size w Wf∧Rd Wf R g c l r (11,(hd r).place)) ⟨?_,?_,?_⟩ ?_
 · exact blk_set3 HZ2.out _ _ _
 · exact HX2.out.set3 (Nat.le_refl _) _ _ _
 · exact HR2.out.set3 (by omega) (by omega) _ _ _
 · rintro Wf ⟨f1,f2,f3⟩
   obtain ⟨_,c0,c1,c2,_⟩:=blk3 f1
   exact bodyPost_ret (v:=.tuple #[.agg #[.int .i64 0,.string ByteArray.empty,.int .i64 0],.bool false]) (by simp [results,Tryz.results107,go_sem,c0,c1,c2]) rfl ⟨noTok,r,_,false,rfl,f3,f2,rfl,rfl⟩
theorem name_good (w:World)(R g c:Nat)(l r:List Tok)(h:Rd w R g c l r (0,0))(t1:((hd r).kind != 1)=false)(h0:(hd r).kind≠0) :
  Calls Tryz.prog 107 #[.pointer (some ⟨R,0,none⟩)] w (PostR tokV R g c l w (sizedR r)):=by
 have HB0:=Lib.hid (heap_alloc_new w (.cells #[.int .i64 0,.string ByteArray.empty,.int .i64 0] 97))
 have hbA:Below w.heap.size w (w.alloc (.cells #[.int .i64 0,.string ByteArray.empty,.int .i64 0] 97)):=(Below.refl _ _).alloc (Nat.le_refl _) _
 have HBA:=Lib.hid hbA
 have HD:=Lib.hid (h.keep hbA)
 have HH:=Lib.hid (here_any _ R g c l r (0,0) HD.out)
 have hR:=blk_lt h.blk
 have hg:=h.glt
 have hf:=fld0
 clear h hbA
 unfold tokV at HH
 have HK:=Lib.hid h0
 clear h0
 go_enter Tryz.func107,Tryz.ntmps107
 go_wp2_with fail
 refine HH.out.mono ?_
 rintro e W1 ⟨rfl,hb1⟩
 have HB1:=Lib.hid (HBA.out.trans (hb1.mono HBA.out.size))
 have HD1:=Lib.hid (HD.out.keep hb1)
 have HZ1:=Lib.hid (blk_below HB0.out hb1 (by simp))
 clear hb1
 have HT:=Lib.hid (sized_any W1 R g c l r HD1.out HK.out)
 go_wp2_with fail
 refine HT.out.mono ?_
 rintro e W2 ⟨a,r',F,ok,rfl,hr2,hx2,hs⟩
 have HS:=Lib.hid hs
 clear hs
 unfold tokV
 have HR2:=Lib.hid hr2
 have HX2:=Lib.hid ((Exc.of_below HB1.out).then hx2)
 have HZ2:=Lib.hid (blk_exc HZ1.out hx2 (blk_lt HZ1.out) (by omega))
 obtain ⟨hz,z0,z1,z2,y0,y1,y2⟩:=blk3 HZ2.out
 clear hr2 hx2
 go_wp2
 refine post_gen (fun Wf=>Wf.heap[w.heap.size]?=some (.cells #[.int .i64 a.kind,.string (strOfNums a.text),.int .i64 a.place] 97 (0,0))∧Exc R w.heap.size w Wf∧Rd Wf R g c l r' F) ⟨?_,?_,?_⟩ ?_
 · exact blk_set3 HZ2.out _ _ _
 · exact HX2.out.set3 (Nat.le_refl _) _ _ _
 · exact HR2.out.set3 (by omega) (by omega) _ _ _
 · rintro Wf ⟨f1,f2,f3⟩
   obtain ⟨_,c0,c1,c2,_⟩:=blk3 f1
   exact bodyPost_ret (v:=.tuple #[.agg #[.int .i64 a.kind,.string (strOfNums a.text),.int .i64 a.place],.bool ok]) (by simp [results,Tryz.results107,go_sem,c0,c1,c2]) rfl ⟨a,r',F,ok,rfl,f3,f2,HS.out⟩
theorem label_bad (w:World)(R g c:Nat)(l r:List Tok)(h:Rd w R g c l r (0,0))(t1:((hd r).kind != 1)=true)(t3:((hd r).kind != 3)=true) :
  Calls Tryz.prog 140 #[.pointer (some ⟨R,0,none⟩)] w (PostR tokV R g c l w (bad 11 r)):=by
 have HB0:=Lib.hid (heap_alloc_new w (.cells #[.int .i64 0,.string ByteArray.empty,.int .i64 0] 97))
 have hbA:Below w.heap.size w (w.alloc (.cells #[.int .i64 0,.string ByteArray.empty,.int .i64 0] 97)):=(Below.refl _ _).alloc (Nat.le_refl _) _
 have HBA:=Lib.hid hbA
 have HD:=Lib.hid (h.keep hbA)
 have HH:=Lib.hid (here_any _ R g c l r (0,0) HD.out)
 have hR:=blk_lt h.blk
 have hg:=h.glt
 have hf:=fld0
 clear h hbA
 unfold tokV at HH
 unfold bad
 go_enter Tryz.func140,Tryz.ntmps140
 go_wp2_with fail
 refine HH.out.mono ?_
 rintro e W1 ⟨rfl,hb1⟩
 have HB1:=Lib.hid (HBA.out.trans (hb1.mono HBA.out.size))
 have HD1:=Lib.hid (HD.out.keep hb1)
 have HZ1:=Lib.hid (blk_below HB0.out hb1 (by simp))
 clear hb1
 have HT:=Lib.hid (refuse_any W1 R g c l r (0,0) 11 HD1.out)
 go_wp2_with fail
 refine HT.out.mono ?_
 rintro e W2 ⟨rfl,hr2,hx2⟩
 have HR2:=Lib.hid hr2
 have HX2:=Lib.hid ((Exc.of_below HB1.out).then hx2)
 have HZ2:=Lib.hid (blk_exc HZ1.out hx2 (blk_lt HZ1.out) (by omega))
 obtain ⟨hz,z0,z1,z2,y0,y1,y2⟩:=blk3 HZ2.out
 clear hr2 hx2
 go_wp2
 refine post_gen (fun Wf=>Wf.heap[w.heap.size]?=some (.cells #[.int .i64 0,.string ByteArray.empty,.int .i64 0] 97 (0,0))∧Exc R w.heap.size w Wf∧Rd Wf R g c l r (11,(hd r).place)) ⟨?_,?_,?_⟩ ?_
 · exact blk_set3 HZ2.out _ _ _
 · exact HX2.out.set3 (Nat.le_refl _) _ _ _
 · exact HR2.out.set3 (by omega) (by omega) _ _ _
 · rintro Wf ⟨f1,f2,f3⟩
   obtain ⟨_,c0,c1,c2,_⟩:=blk3 f1
   exact bodyPost_ret (v:=.tuple #[.agg #[.int .i64 0,.string ByteArray.empty,.int .i64 0],.bool false]) (by simp [results,Tryz.results140,go_sem,c0,c1,c2]) rfl ⟨noTok,r,_,false,rfl,f3,f2,rfl,rfl⟩
theorem label_one (w:World)(R g c:Nat)(l r:List Tok)(h:Rd w R g c l r (0,0))(t1:((hd r).kind != 1)=false)(h0:(hd r).kind≠0) :
  Calls Tryz.prog 140 #[.pointer (some ⟨R,0,none⟩)] w (PostR tokV R g c l w (sizedR r)):=by
 have HB0:=Lib.hid (heap_alloc_new w (.cells #[.int .i64 0,.string ByteArray.empty,.int .i64 0] 97))
 have hbA:Below w.heap.size w (w.alloc (.cells #[.int .i64 0,.string ByteArray.empty,.int .i64 0] 97)):=(Below.refl _ _).alloc (Nat.le_refl _) _
 have HBA:=Lib.hid hbA
 have HD:=Lib.hid (h.keep hbA)
 have HH:=Lib.hid (here_any _ R g c l r (0,0) HD.out)
 have hR:=blk_lt h.blk
 have hg:=h.glt
 have hf:=fld0
 clear h hbA
 unfold tokV at HH
 have HK:=Lib.hid h0
 clear h0
 go_enter Tryz.func140,Tryz.ntmps140
 go_wp2_with fail
 refine HH.out.mono ?_
 rintro e W1 ⟨rfl,hb1⟩
 have HB1:=Lib.hid (HBA.out.trans (hb1.mono HBA.out.size))
 have HD1:=Lib.hid (HD.out.keep hb1)
 have HZ1:=Lib.hid (blk_below HB0.out hb1 (by simp))
 clear hb1
 have HT:=Lib.hid (sized_any W1 R g c l r HD1.out HK.out)
 go_wp2_with fail
 refine HT.out.mono ?_
 rintro e W2 ⟨a,r',F,ok,rfl,hr2,hx2,hs⟩
 have HS:=Lib.hid hs
 clear hs
 unfold tokV
 have HR2:=Lib.hid hr2
 have HX2:=Lib.hid ((Exc.of_below HB1.out).then hx2)
 have HZ2:=Lib.hid (blk_exc HZ1.out hx2 (blk_lt HZ1.out) (by omega))
 obtain ⟨hz,z0,z1,z2,y0,y1,y2⟩:=blk3 HZ2.out
 clear hr2 hx2
 go_wp2
 refine post_gen (fun Wf=>Wf.heap[w.heap.size]?=some (.cells #[.int .i64 a.kind,.string (strOfNums a.text),.int .i64 a.place] 97 (0,0))∧Exc R w.heap.size w Wf∧Rd Wf R g c l r' F) ⟨?_,?_,?_⟩ ?_
 · exact blk_set3 HZ2.out _ _ _
 · exact HX2.out.set3 (Nat.le_refl _) _ _ _
 · exact HR2.out.set3 (by omega) (by omega) _ _ _
 · rintro Wf ⟨f1,f2,f3⟩
   obtain ⟨_,c0,c1,c2,_⟩:=blk3 f1
   exact bodyPost_ret (v:=.tuple #[.agg #[.int .i64 a.kind,.string (strOfNums a.text),.int .i64 a.place],.bool ok]) (by simp [results,Tryz.results140,go_sem,c0,c1,c2]) rfl ⟨a,r',F,ok,rfl,f3,f2,HS.out⟩
theorem label_three (w:World)(R g c:Nat)(l r:List Tok)(h:Rd w R g c l r (0,0))(t1:((hd r).kind != 1)=true)(t3:((hd r).kind != 3)=false)(h0:(hd r).kind≠0) :
  Calls Tryz.prog 140 #[.pointer (some ⟨R,0,none⟩)] w (PostR tokV R g c l w (sizedR r)):=by
 have HB0:=Lib.hid (heap_alloc_new w (.cells #[.int .i64 0,.string ByteArray.empty,.int .i64 0] 97))
 have hbA:Below w.heap.size w (w.alloc (.cells #[.int .i64 0,.string ByteArray.empty,.int .i64 0] 97)):=(Below.refl _ _).alloc (Nat.le_refl _) _
 have HBA:=Lib.hid hbA
 have HD:=Lib.hid (h.keep hbA)
 have HH:=Lib.hid (here_any _ R g c l r (0,0) HD.out)
 have hR:=blk_lt h.blk
 have hg:=h.glt
 have hf:=fld0
 clear h hbA
 unfold tokV at HH
 have HK:=Lib.hid h0
 clear h0
 go_enter Tryz.func140,Tryz.ntmps140
 go_wp2_with fail
 refine HH.out.mono ?_
 rintro e W1 ⟨rfl,hb1⟩
 have HB1:=Lib.hid (HBA.out.trans (hb1.mono HBA.out.size))
 have HD1:=Lib.hid (HD.out.keep hb1)
 have HZ1:=Lib.hid (blk_below HB0.out hb1 (by simp))
 clear hb1
 have HT:=Lib.hid (sized_any W1 R g c l r HD1.out HK.out)
 go_wp2_with fail
 refine HT.out.mono ?_
 rintro e W2 ⟨a,r',F,ok,rfl,hr2,hx2,hs⟩
 have HS:=Lib.hid hs
 clear hs
 unfold tokV
 have HR2:=Lib.hid hr2
 have HX2:=Lib.hid ((Exc.of_below HB1.out).then hx2)
 have HZ2:=Lib.hid (blk_exc HZ1.out hx2 (blk_lt HZ1.out) (by omega))
 obtain ⟨hz,z0,z1,z2,y0,y1,y2⟩:=blk3 HZ2.out
 clear hr2 hx2
 go_wp2
 refine post_gen (fun Wf=>Wf.heap[w.heap.size]?=some (.cells #[.int .i64 a.kind,.string (strOfNums a.text),.int .i64 a.place] 97 (0,0))∧Exc R w.heap.size w Wf∧Rd Wf R g c l r' F) ⟨?_,?_,?_⟩ ?_
 · exact blk_set3 HZ2.out _ _ _
 · exact HX2.out.set3 (Nat.le_refl _) _ _ _
 · exact HR2.out.set3 (by omega) (by omega) _ _ _
 · rintro Wf ⟨f1,f2,f3⟩
   obtain ⟨_,c0,c1,c2,_⟩:=blk3 f1
   exact bodyPost_ret (v:=.tuple #[.agg #[.int .i64 a.kind,.string (strOfNums a.text),.int .i64 a.place],.bool ok]) (by simp [results,Tryz.results140,go_sem,c0,c1,c2]) rfl ⟨a,r',F,ok,rfl,f3,f2,HS.out⟩
theorem value_bad (w:World)(R g c:Nat)(l r:List Tok)(h:Rd w R g c l r (0,0))(t1:((hd r).kind != 1)=true)(t2:((hd r).kind != 2)=true) :
  Calls Tryz.prog 142 #[.pointer (some ⟨R,0,none⟩)] w (PostR tokV R g c l w (bad 11 r)):=by
 have HB0:=Lib.hid (heap_alloc_new w (.cells #[.int .i64 0,.string ByteArray.empty,.int .i64 0] 97))
 have hbA:Below w.heap.size w (w.alloc (.cells #[.int .i64 0,.string ByteArray.empty,.int .i64 0] 97)):=(Below.refl _ _).alloc (Nat.le_refl _) _
 have HBA:=Lib.hid hbA
 have HD:=Lib.hid (h.keep hbA)
 have HH:=Lib.hid (here_any _ R g c l r (0,0) HD.out)
 have hR:=blk_lt h.blk
 have hg:=h.glt
 have hf:=fld0
 clear h hbA
 unfold tokV at HH
 unfold bad
 go_enter Tryz.func142,Tryz.ntmps142
 go_wp2_with fail
 refine HH.out.mono ?_
 rintro e W1 ⟨rfl,hb1⟩
 have HB1:=Lib.hid (HBA.out.trans (hb1.mono HBA.out.size))
 have HD1:=Lib.hid (HD.out.keep hb1)
 have HZ1:=Lib.hid (blk_below HB0.out hb1 (by simp))
 clear hb1
 have HT:=Lib.hid (refuse_any W1 R g c l r (0,0) 11 HD1.out)
 go_wp2_with fail
 refine HT.out.mono ?_
 rintro e W2 ⟨rfl,hr2,hx2⟩
 have HR2:=Lib.hid hr2
 have HX2:=Lib.hid ((Exc.of_below HB1.out).then hx2)
 have HZ2:=Lib.hid (blk_exc HZ1.out hx2 (blk_lt HZ1.out) (by omega))
 obtain ⟨hz,z0,z1,z2,y0,y1,y2⟩:=blk3 HZ2.out
 clear hr2 hx2
 go_wp2
 refine post_gen (fun Wf=>Wf.heap[w.heap.size]?=some (.cells #[.int .i64 0,.string ByteArray.empty,.int .i64 0] 97 (0,0))∧Exc R w.heap.size w Wf∧Rd Wf R g c l r (11,(hd r).place)) ⟨?_,?_,?_⟩ ?_
 · exact blk_set3 HZ2.out _ _ _
 · exact HX2.out.set3 (Nat.le_refl _) _ _ _
 · exact HR2.out.set3 (by omega) (by omega) _ _ _
 · rintro Wf ⟨f1,f2,f3⟩
   obtain ⟨_,c0,c1,c2,_⟩:=blk3 f1
   exact bodyPost_ret (v:=.tuple #[.agg #[.int .i64 0,.string ByteArray.empty,.int .i64 0],.bool false]) (by simp [results,Tryz.results142,go_sem,c0,c1,c2]) rfl ⟨noTok,r,_,false,rfl,f3,f2,rfl,rfl⟩
theorem value_one (w:World)(R g c:Nat)(l r:List Tok)(h:Rd w R g c l r (0,0))(t1:((hd r).kind != 1)=false)(h0:(hd r).kind≠0) :
  Calls Tryz.prog 142 #[.pointer (some ⟨R,0,none⟩)] w (PostR tokV R g c l w (.ok (hd r) r.tail)):=by
 have HB0:=Lib.hid (heap_alloc_new w (.cells #[.int .i64 0,.string ByteArray.empty,.int .i64 0] 97))
 have hbA:Below w.heap.size w (w.alloc (.cells #[.int .i64 0,.string ByteArray.empty,.int .i64 0] 97)):=(Below.refl _ _).alloc (Nat.le_refl _) _
 have HBA:=Lib.hid hbA
 have HD:=Lib.hid (h.keep hbA)
 have HH:=Lib.hid (here_any _ R g c l r (0,0) HD.out)
 have hR:=blk_lt h.blk
 have hg:=h.glt
 have hf:=fld0
 clear h hbA
 unfold tokV at HH
 have HK:=Lib.hid h0
 clear h0
 go_enter Tryz.func142,Tryz.ntmps142
 go_wp2_with fail
 refine HH.out.mono ?_
 rintro e W1 ⟨rfl,hb1⟩
 have HB1:=Lib.hid (HBA.out.trans (hb1.mono HBA.out.size))
 have HD1:=Lib.hid (HD.out.keep hb1)
 have HZ1:=Lib.hid (blk_below HB0.out hb1 (by simp))
 clear hb1
 have HT:=Lib.hid (take_any W1 R g c l r (0,0) HD1.out HK.out)
 unfold tokV at HT
 go_wp2_with fail
 refine HT.out.mono ?_
 rintro e W2 ⟨rfl,hr2,hx2⟩
 have HR2:=Lib.hid hr2
 have HX2:=Lib.hid ((Exc.of_below HB1.out).then hx2)
 have HZ2:=Lib.hid (blk_exc HZ1.out hx2 (blk_lt HZ1.out) (by omega))
 obtain ⟨hz,z0,z1,z2,y0,y1,y2⟩:=blk3 HZ2.out
 clear hr2 hx2
 go_wp2
 refine post_gen (fun Wf=>Wf.heap[w.heap.size]?=some (.cells #[.int .i64 (hd r).kind,.string (strOfNums (hd r).text),.int .i64 (hd r).place] 97 (0,0))∧Exc R w.heap.size w Wf∧Rd Wf R g c l r.tail (0,0)) ⟨?_,?_,?_⟩ ?_
 · exact blk_set3 HZ2.out _ _ _
 · exact HX2.out.set3 (Nat.le_refl _) _ _ _
 · exact HR2.out.set3 (by omega) (by omega) _ _ _
 · rintro Wf ⟨f1,f2,f3⟩
   obtain ⟨_,c0,c1,c2,_⟩:=blk3 f1
   exact bodyPost_ret (v:=.tuple #[.agg #[.int .i64 (hd r).kind,.string (strOfNums (hd r).text),.int .i64 (hd r).place],.bool true]) (by simp [results,Tryz.results142,go_sem,c0,c1,c2]) rfl ⟨hd r,r.tail,_,true,rfl,f3,f2,rfl,rfl,rfl,rfl⟩
theorem value_two (w:World)(R g c:Nat)(l r:List Tok)(h:Rd w R g c l r (0,0))(t1:((hd r).kind != 1)=true)(t2:((hd r).kind != 2)=false)(h0:(hd r).kind≠0) :
  Calls Tryz.prog 142 #[.pointer (some ⟨R,0,none⟩)] w (PostR tokV R g c l w (.ok (hd r) r.tail)):=by
 have HB0:=Lib.hid (heap_alloc_new w (.cells #[.int .i64 0,.string ByteArray.empty,.int .i64 0] 97))
 have hbA:Below w.heap.size w (w.alloc (.cells #[.int .i64 0,.string ByteArray.empty,.int .i64 0] 97)):=(Below.refl _ _).alloc (Nat.le_refl _) _
 have HBA:=Lib.hid hbA
 have HD:=Lib.hid (h.keep hbA)
 have HH:=Lib.hid (here_any _ R g c l r (0,0) HD.out)
 have hR:=blk_lt h.blk
 have hg:=h.glt
 have hf:=fld0
 clear h hbA
 unfold tokV at HH
 have HK:=Lib.hid h0
 clear h0
 go_enter Tryz.func142,Tryz.ntmps142
 go_wp2_with fail
 refine HH.out.mono ?_
 rintro e W1 ⟨rfl,hb1⟩
 have HB1:=Lib.hid (HBA.out.trans (hb1.mono HBA.out.size))
 have HD1:=Lib.hid (HD.out.keep hb1)
 have HZ1:=Lib.hid (blk_below HB0.out hb1 (by simp))
 clear hb1
 have HT:=Lib.hid (take_any W1 R g c l r (0,0) HD1.out HK.out)
 unfold tokV at HT
 go_wp2_with fail
 refine HT.out.mono ?_
 rintro e W2 ⟨rfl,hr2,hx2⟩
 have HR2:=Lib.hid hr2
 have HX2:=Lib.hid ((Exc.of_below HB1.out).then hx2)
 have HZ2:=Lib.hid (blk_exc HZ1.out hx2 (blk_lt HZ1.out) (by omega))
 obtain ⟨hz,z0,z1,z2,y0,y1,y2⟩:=blk3 HZ2.out
 clear hr2 hx2
 go_wp2
 refine post_gen (fun Wf=>Wf.heap[w.heap.size]?=some (.cells #[.int .i64 (hd r).kind,.string (strOfNums (hd r).text),.int .i64 (hd r).place] 97 (0,0))∧Exc R w.heap.size w Wf∧Rd Wf R g c l r.tail (0,0)) ⟨?_,?_,?_⟩ ?_
 · exact blk_set3 HZ2.out _ _ _
 · exact HX2.out.set3 (Nat.le_refl _) _ _ _
 · exact HR2.out.set3 (by omega) (by omega) _ _ _
 · rintro Wf ⟨f1,f2,f3⟩
   obtain ⟨_,c0,c1,c2,_⟩:=blk3 f1
   exact bodyPost_ret (v:=.tuple #[.agg #[.int .i64 (hd r).kind,.string (strOfNums (hd r).text),.int .i64 (hd r).place],.bool true]) (by simp [results,Tryz.results142,go_sem,c0,c1,c2]) rfl ⟨hd r,r.tail,_,true,rfl,f3,f2,rfl,rfl,rfl,rfl⟩
theorem ne_true {a b:Int}(h:¬a=b):(a != b)=true:=by simp [h]
theorem ne_false {a b:Int}(h:a=b):(a != b)=false:=by simp [h]
theorem name_any (w:World)(R g c:Nat)(l r:List Tok)(h:Rd w R g c l r (0,0)) :
  Calls Tryz.prog 107 #[.pointer (some ⟨R,0,none⟩)] w (PostR tokV R g c l w (nameR r)):=by
 by_cases h1:(hd r).kind=1
 · rw [show nameR r=sizedR r from if_pos h1]
   exact name_good w R g c l r h (ne_false h1) (by omega)
 · rw [show nameR r=bad 11 r from if_neg h1]
   exact name_bad w R g c l r h (ne_true h1)
theorem label_any (w:World)(R g c:Nat)(l r:List Tok)(h:Rd w R g c l r (0,0)) :
  Calls Tryz.prog 140 #[.pointer (some ⟨R,0,none⟩)] w (PostR tokV R g c l w (labelR r)):=by
 by_cases h1:(hd r).kind=1
 · rw [show labelR r=sizedR r from if_pos (.inl h1)]
   exact label_one w R g c l r h (ne_false h1) (by omega)
 · by_cases h3:(hd r).kind=3
   · rw [show labelR r=sizedR r from if_pos (.inr h3)]
     exact label_three w R g c l r h (ne_true h1) (ne_false h3) (by omega)
   · rw [show labelR r=bad 11 r from if_neg (by omega)]
     exact label_bad w R g c l r h (ne_true h1) (ne_true h3)
theorem value_any (w:World)(R g c:Nat)(l r:List Tok)(h:Rd w R g c l r (0,0)) :
  Calls Tryz.prog 142 #[.pointer (some ⟨R,0,none⟩)] w (PostR tokV R g c l w (valueR r)):=by
 by_cases h1:(hd r).kind=1
 · rw [show valueR r=.ok (hd r) r.tail from if_pos (.inl h1)]
   exact value_one w R g c l r h (ne_false h1) (by omega)
 · by_cases h3:(hd r).kind=2
   · rw [show valueR r=.ok (hd r) r.tail from if_pos (.inr h3)]
     exact value_two w R g c l r h (ne_true h1) (ne_false h3) (by omega)
   · rw [show valueR r=bad 11 r from if_neg (by omega)]
     exact value_bad w R g c l r h (ne_true h1) (ne_true h3)
end Go.Proofs.YtokhnoogkdlidaaGreatDoor
