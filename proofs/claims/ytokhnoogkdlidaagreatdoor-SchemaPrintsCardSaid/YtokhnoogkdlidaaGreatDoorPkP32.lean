/-
  The document's own parser: the parts of a schema, plain. Conditions: those that each theorem names.
-/
import Derived.Test.YtokhnoogkdlidaaGreatDoorPkP9
import Derived.Test.YtokhnoogkdlidaaGreatDoorPkP15
import Derived.Test.YtokhnoogkdlidaaGreatDoorPkP27
namespace Go.Proofs.YtokhnoogkdlidaaGreatDoor
open Go.ChangeShapes Go.WideShapes Go.ChangeAt Go.RowKit Go.Shelf
def Sto.rd {α:Type}(st:Sto)(f:List Tok→Res α):Res α:=
 match st with
 | .go r=>f r
 | .fell c p=>.no c p
def Got {α:Type}(st:Sto)(f:List Tok→Res α)(t:α):Prop:=∀ r a r',st=.go r→f r=.ok a r'→t=a
theorem got_rd {α β:Type}{st:Sto}{f:List Tok→Res α}{k:α→List Tok→Res β}{t:α}(h:Got st f t):(st.rd fun r=>(f r).bind k)=(st.step f).rd (k t):=by
 cases st with
 | fell c p=>rfl
 | go r =>
  show (f r).bind k=_
  generalize hq:f r=q
  cases q with
  | ok a r' =>
   rw [step_ok hq,h r a r' rfl hq]
   rfl
  | no c p =>
   rw [step_no hq]
   rfl
theorem got_unit {st:Sto}{f:List Tok→Res Unit}:Got st f ():=fun _ _ _ _ _=>rfl
theorem step_of {α:Type}{st st':Sto}{f:List Tok→Res α}{a:α}(h:st.rd f=st'.rd (fun r=>.ok a r)):st.step f=st'∧Got st f a:=by
 cases st with
 | fell c p =>
  refine ⟨?_,fun r _ _ e=>by cases e⟩
  cases st' with
  | go r=>cases h
  | fell c' p' =>
   have h':(Res.no c p:Res α)=.no c' p':=h
   injection h' with h1 h2
   rw [h1,h2]
   rfl
 | go r =>
  have h1:f r=st'.rd (fun r=>.ok a r):=h
  cases st' with
  | go r2=>exact ⟨step_ok h1,fun r' a' r3 e e2=>by cases e;rw [h1] at e2;exact (Res.ok.inj e2).1⟩
  | fell c' p'=>exact ⟨step_no h1,fun r' a' r3 e e2=>by cases e;rw [h1] at e2;cases e2⟩
theorem step_bad {α:Type}{st:Sto}{f:List Tok→Res α}{c:Int}{p:Nat}(h:st.rd f=.no c p)(a:α):st.step f=.fell c p∧Got st f a:=by
 cases st with
 | fell c' p' =>
  have h':(Res.no c' p':Res α)=.no c p:=h
  injection h' with h1 h2
  exact ⟨by rw [h1,h2];rfl,fun r _ _ e=>by cases e⟩
 | go r=>exact ⟨step_no h,fun r' a' r3 e e2=>by cases e;rw [show f r=_ from h] at e2;cases e2⟩
theorem DpS.set3 {w:World}{P g c:Nat}{l:List Tok}{st:Sto}(h:DpS w P g c l st){X:Nat}(hP:P≠X)(hg:g≠X)(x y z:Value):DpS (((w.setCell ⟨X,0,none⟩ x).setCell ⟨X,1,none⟩ y).setCell ⟨X,2,none⟩ z) P g c l st:=h.other (exc_set3 w X x y z) hP hg
theorem DpS.set1 {w:World}{P g c:Nat}{l:List Tok}{st:Sto}(h:DpS w P g c l st){X:Nat}(hP:P≠X)(hg:g≠X)(i:Nat)(x:Value):DpS (w.setCell ⟨X,i,none⟩ x) P g c l st:=h.other (exc_set w X i x) hP hg
theorem DpS.alloc {w:World}{P g c:Nat}{l:List Tok}{st:Sto}(h:DpS w P g c l st)(o:Obj):DpS (w.alloc o) P g c l st:=h.keep ((Below.refl _ _).alloc (Nat.le_refl _) _)
def PostD {α:Type}(enc:α→Value)(P g c:Nat)(l:List Tok)(w:World)(st:Sto)(f:List Tok→Res α)(e:Ending)(w':World):Prop:=
 ∃ a,e=.returned (enc a)∧DpS w' P g c l (st.step f)∧Exc P w.heap.size w w'∧Got st f a
theorem dhere_st (w:World)(P g c:Nat)(l:List Tok)(st:Sto)(h:DpS w P g c l st) :
  Calls Tryz.prog 36 #[.pointer (some ⟨P,0,none⟩)] w fun e w'=>∃ t,e=.returned (tokV t)∧Below w.heap.size w w'∧(∀ r,st=.go r→t=hd r):=by
 cases st with
 | go r=>exact (dhere_any w P g c l r _ h).mono fun e w' ⟨he,hb⟩=>⟨hd r,he,hb,fun r' e'=>by cases e';rfl⟩
 | fell c' p=>exact (dhere_any w P g c l _ _ h.2.choose_spec).mono fun e w' ⟨he,hb⟩=>⟨_,he,hb,fun r' e'=>by cases e'⟩
def nmR (q:Bool)(r:List Tok):Res Tok:=if q=true then labelR r else nameR r
theorem dname_any (w:World)(P g c:Nat)(l:List Tok)(st:Sto)(q:Bool)(h:DpS w P g c l st) :
  Calls Tryz.prog 40 #[.pointer (some ⟨P,0,none⟩),.bool q] w (PostD tokV P g c l w st (nmR q)):=by
 cases st with
 | fell c' p =>
  obtain ⟨h0,r,hd'⟩:=h
  exact (dname_fell w P g c l r (c',p) q (by simp [h0]) hd').mono fun e w' ⟨he,hd2,hx⟩=>⟨noTok,he,⟨h0,r,hd2⟩,hx,fun _ _ _ e=>by cases e⟩
 | go r =>
  have hdr:Dp w P g c l r (0,0):=h
  have hsz:(strOfNums (hd r).text).size=(hd r).text.length:=strOfNums_size _
  have no:∀ code:Int,code≠0→nmR q r=bad code r→Calls Tryz.prog 40 #[.pointer (some ⟨P,0,none⟩),.bool q] w (fun e w'=>e=.returned (tokV noTok)∧Dp w' P g c l r (code,(hd r).place)∧Exc P w.heap.size w w')→Calls Tryz.prog 40 #[.pointer (some ⟨P,0,none⟩),.bool q] w (PostD tokV P g c l w (.go r) (nmR q)):=by
   intro code h0 hn hc
   refine hc.mono fun e w' ⟨he,hd2,hx⟩=>⟨noTok,he,?_,hx,fun r' a r2 e1 e2=>by cases e1;rw [hn] at e2;cases e2⟩
   rw [step_no (show nmR q r=.no code (hd r).place from hn)]
   exact ⟨h0,r,hd2⟩
  have ok:nmR q r=.ok (hd r) r.tail→Calls Tryz.prog 40 #[.pointer (some ⟨P,0,none⟩),.bool q] w (fun e w'=>e=.returned (tokV (hd r))∧Dp w' P g c l r.tail (0,0)∧Exc P w.heap.size w w')→Calls Tryz.prog 40 #[.pointer (some ⟨P,0,none⟩),.bool q] w (PostD tokV P g c l w (.go r) (nmR q)):=by
   intro hn hc
   refine hc.mono fun e w' ⟨he,hd2,hx⟩=>⟨hd r,he,?_,hx,fun r' a r2 e1 e2=>by cases e1;rw [hn] at e2;exact (Res.ok.inj e2).1⟩
   rw [step_ok hn]
   exact hd2
  by_cases h1:(hd r).kind=1
  · have t1:((hd r).kind != 1)=false:=by simp [h1]
    have hq:nmR q r=sizedR r:=by
     cases q
     · exact if_pos (c:=(hd r).kind=1) h1
     · exact if_pos (c:=(hd r).kind=1∨(hd r).kind=3) (.inl h1)
    by_cases hn:(hd r).text.length=0
    · exact no 12 (by decide) (hq.trans (if_pos (.inl hn))) (dname_noneN w P g c l r q t1 (by rw [hsz,hn];rfl) hdr)
    · by_cases hm:40<(hd r).text.length
      · exact no 12 (by decide) (hq.trans (if_pos (.inr hm))) (dname_longN w P g c l r q t1 (by rw [hsz];exact decide_eq_false (by omega)) (by rw [hsz];exact decide_eq_true (by omega)) hdr)
      · exact ok (hq.trans (if_neg (by omega))) (dname_fitsN w P g c l r q t1 (by rw [h1];decide) (by rw [hsz];exact decide_eq_false (by omega)) (by rw [hsz];exact decide_eq_false (by omega)) hdr)
  · have t1:((hd r).kind != 1)=true:=by simp [h1]
    cases q
    · exact no 11 (by decide) (if_neg (c:=(hd r).kind=1) h1) (dname_badF w P g c l r t1 hdr)
    · by_cases h3:(hd r).kind=3
      · have t3:((hd r).kind==3)=true:=by simp [h3]
        have hq:nmR true r=sizedR r:=if_pos (c:=(hd r).kind=1∨(hd r).kind=3) (.inr h3)
        by_cases hn:(hd r).text.length=0
        · exact no 12 (by decide) (hq.trans (if_pos (.inl hn))) (dname_noneQ w P g c l r t1 t3 (by rw [hsz,hn];rfl) hdr)
        · by_cases hm:40<(hd r).text.length
          · exact no 12 (by decide) (hq.trans (if_pos (.inr hm))) (dname_longQ w P g c l r t1 t3 (by rw [hsz];exact decide_eq_false (by omega)) (by rw [hsz];exact decide_eq_true (by omega)) hdr)
          · exact ok (hq.trans (if_neg (by omega))) (dname_fitsQ w P g c l r t1 t3 (by rw [h3];decide) (by rw [hsz];exact decide_eq_false (by omega)) (by rw [hsz];exact decide_eq_false (by omega)) hdr)
      · exact no 11 (by decide) (if_neg (c:=(hd r).kind=1∨(hd r).kind=3) (by omega)) (dname_badT w P g c l r t1 (by simp [h3]) hdr)
end Go.Proofs.YtokhnoogkdlidaaGreatDoor
namespace Go.Proofs.YtokhnoogkdlidaaGreatDoor
open Go.ChangeShapes Go.WideShapes Go.ChangeAt Go.RowKit Go.Shelf
def tyTail (t:Tok)(n p k:Nat)(r:List Tok):Res RTy:=(closeR k r).bind fun _ r3=>.ok ⟨t.text,n,p⟩ r3
theorem tyEnd_got {st:Sto}{t:Tok}{n p:Nat}(h:Got st nameR t):st.rd (tyEnd p n)=(st.step nameR).rd (tyTail t n p n):=got_rd (k:=fun (t:Tok) (r2:List Tok)=>tyTail t n p n r2) h
theorem tail_step {st:Sto}{t:Tok}{n p k:Nat}(h:k<n):st.rd (tyTail t n p (n-k))=(st.step (wantR [62])).rd (tyTail t n p (n-(k+1))):=by
 have e:(tyTail t n p (n-k))=fun r=>(wantR [62] r).bind fun _ r'=>tyTail t n p (n-(k+1)) r':=by
  funext r
  unfold tyTail
  rw [close_step h]
  cases wantR [62] r<;>rfl
 rw [e]
 exact got_rd (k:=fun _ r'=>tyTail t n p (n-(k+1)) r') got_unit
theorem lists_got {st:Sto}{r:List Tok}{n p:Nat}(hn:n<3)(hst:st=.go r)(h:isT 1 wList r=true) :
  st.rd (fun r1=>(listsR (3-n) n r1).bind (tyEnd p))=((Sto.go r.tail).step (wantR [60])).rd (fun r1=>(listsR (3-(n+1)) (n+1) r1).bind (tyEnd p)):=by
 subst hst
 show (listsR (3-n) n r).bind (tyEnd p)=_
 rw [lists_step hn h]
 rw [←got_rd (f:=wantR [60]) (t:=()) (k:=fun _ r1=>(listsR (3-(n+1)) (n+1) r1).bind (tyEnd p)) got_unit]
 show _=(wantR [60] r.tail).bind _
 cases wantR [60] r.tail<;>rfl
theorem lists_none {st:Sto}{n p:Nat}(h:isS 1 wList st=false):st.rd (fun r1=>(listsR (3-n) n r1).bind (tyEnd p))=st.rd (tyEnd p n):=by
 cases st with
 | fell c p=>rfl
 | go r =>
  show (listsR (3-n) n r).bind (tyEnd p)=tyEnd p n r
  rw [lists_stop h]
  rfl
def DTyAt (P g c:Nat)(l:List Tok)(w:World)(T p:Nat)(X:Res RTy)(wr:World):Prop:=
 ∃ (n:Nat) (st1:Sto),n≤3∧DpS wr P g c l st1∧wr.heap[T]?=some (.cells #[.string ByteArray.empty,.int .i64 n,.int .i64 p] 112 (0,0)) ∧
  wr.heap[w.heap.size]?=some (.cells #[.string ByteArray.empty,.int .i64 0,.int .i64 0] 112 (0,0))∧Exc P w.heap.size w wr∧X=st1.rd (fun r1=>(listsR (3-n) n r1).bind (tyEnd p))
def DCloseAt (P g c:Nat)(l:List Tok)(w:World)(T n p:Nat)(t:Tok)(X:Res RTy)(i:Value)(wr:World):Prop:=
 ∃ (k:Nat) (st1:Sto),i=.int .i64 k∧k≤n∧DpS wr P g c l st1∧wr.heap[T]?=some (.cells #[.string (strOfNums t.text),.int .i64 n,.int .i64 p] 112 (0,0)) ∧
  wr.heap[w.heap.size]?=some (.cells #[.string ByteArray.empty,.int .i64 0,.int .i64 0] 112 (0,0))∧Exc P w.heap.size w wr∧X=st1.rd (tyTail t n p (n-k))
set_option maxRecDepth 100000 in
set_option maxHeartbeats 2000000 in
theorem dkind_any (w:World)(P g c:Nat)(l:List Tok)(st:Sto)(h:DpS w P g c l st) :
  Calls Tryz.prog 62 #[.pointer (some ⟨P,0,none⟩)] w (PostD tyV P g c l w st tyR):=by
 have HB0:=Lib.hid (heap_alloc_new w (.cells #[.string ByteArray.empty,.int .i64 0,.int .i64 0] 112))
 have hbA:Below w.heap.size w (w.alloc (.cells #[.string ByteArray.empty,.int .i64 0,.int .i64 0] 112)):=(Below.refl _ _).alloc (Nat.le_refl _) _
 have HBA:=Lib.hid hbA
 have HD:=Lib.hid (h.keep hbA)
 have HH:=Lib.hid (dhere_st _ P g c l st HD.out)
 obtain ⟨hP,hg,hgP⟩:=h.facts
 have hf:=fld2
 clear h hbA
 unfold tokV at HH
 go_enter Tryz.func62,Tryz.ntmps62
 go_wp2_with fail
 refine HH.out.mono ?_
 rintro e W1 ⟨u,rfl,hb1,hu⟩
 have HB1:=Lib.hid (HBA.out.trans (hb1.mono HBA.out.size))
 have HD1:=Lib.hid (HD.out.keep hb1)
 have HZ1:=Lib.hid (blk_below HB0.out hb1 (by simp))
 have hT:w.heap.size<W1.heap.size:=blk_lt HZ1.out
 have HTY:Hid (st.rd tyR=st.rd (fun r1=>(listsR (3-0) 0 r1).bind (tyEnd u.place))):=Lib.hid (by
  cases st with
  | fell c p=>rfl
  | go r=>rw [hu r rfl];rfl)
 clear hb1 hu
 go_wp2_with fail
 have hbT:Below W1.heap.size W1 (W1.alloc (.cells #[.string ⟨#[]⟩,.int .i64 0,.int .i64 u.place] 112)):=(Below.refl _ _).alloc (Nat.le_refl _) _
 have HRD:=Lib.hid (HD1.out.keep hbT)
 have HX:=Lib.hid ((Exc.of_below (R:=P) HB1.out).thenB (Nat.le_refl _) (.of_below hbT))
 have HZ:=Lib.hid (blk_below HZ1.out hbT hT)
 have HT:=Lib.hid (heap_alloc_new W1 (.cells #[.string ⟨#[]⟩,.int .i64 0,.int .i64 u.place] 112))
 clear hbT hf HH HD HD1 HB0 HBA HB1 HZ1
 generalize (W1.alloc (.cells #[.string ⟨#[]⟩,.int .i64 0,.int .i64 u.place] 112))=W2 at *
 generalize W1.heap.size=T at *
 generalize u.place=p at *
 generalize hXX:st.rd tyR=X at *
 have HXX:=Lib.hid hXX
 clear hXX
 go_loopw [] (fun wr=>DTyAt P g c l w T p X wr) (fun wr=>3-numOf (wr.cell? ⟨T,1,none⟩))
 case atStart=>exact ⟨0,st,by decide,HRD.out,HT.out,HZ.out,HX.out,HTY.out⟩
 case round =>
  clear HRD HX HZ HT HTY
  obtain ⟨n,st1,hn,hrd,ht,hz,hx,heq⟩:=hrel
  have HRD:=Lib.hid hrd
  have HT:=Lib.hid ht
  have HTm:=Lib.hid ht
  have HZ:=Lib.hid hz
  have HX:=Lib.hid hx
  have HEQ:=Lib.hid heq
  clear hrd ht hz hx heq
  go_wp2_with fail
  refine (dis_any _ P g c l st1 1 ⟨#[108,105,115,116]⟩ wList (by kernel_rfl) HRD.out).mono ?_
  rintro e W3 ⟨rfl,hb3⟩
  have HR3:=Lib.hid (HRD.out.keep hb3)
  have HT3:=Lib.hid (blk_below HT.out hb3 (blk_lt HT.out))
  have HZ3:=Lib.hid (blk_below HZ.out hb3 (blk_lt HZ.out))
  have HX3:=Lib.hid (HX.out.bel (Nat.le_refl _) hb3)
  clear hb3 HRD HT HZ HX
  generalize hi:isS 1 wList st1=b
  have HI:=Lib.hid hi
  clear hi
  cases b
  · have HE:=Lib.hid (HEQ.out.trans (lists_none HI.out))
    clear HEQ
    go_wp2_with fail
    refine (dname_any _ P g c l st1 false HR3.out).mono ?_
    rintro e W4 ⟨a,rfl,hr4,hx4,hs4⟩
    have HR4:Hid (DpS W4 P g c l (st1.step nameR)):=Lib.hid hr4
    have HX4:=Lib.hid (HX3.out.thenB (Nat.le_refl _) hx4)
    have HZ4:=Lib.hid (blk_exc HZ3.out hx4 (blk_lt HZ3.out) (by omega))
    have HT4:=Lib.hid (blk_exc HT3.out hx4 (blk_lt HT3.out) (by omega))
    have HE2:=Lib.hid (HE.out.trans (tyEnd_got (t:=a) (n:=n) (p:=p) hs4))
    clear hr4 hx4 hs4 HR3 HX3 HZ3 HT3 HE HI HTm
    generalize st1.step nameR=st2 at *
    unfold tokV
    obtain ⟨hT',t0,t1,t2,u0,u1,u2⟩:=blk3 HT4.out
    have hsz4:T<W4.heap.size:=hT'
    go_wp2_with fail
    go_loopw [5] (fun i wr=>DCloseAt P g c l w T n p a X i wr) (fun i _=>n-(intOf i).toNat)
    case atStart=>exact ⟨0,st2,rfl,Nat.zero_le _,(HR4.out.set1 (by omega) (by omega) _ _).alloc _,blk_alloc ((blk_set HT4.out 0 _).trans rfl) _,blk_alloc (blk_set_ne HZ4.out (by simp only;omega) _) _,(HX4.out.set1 (by omega) _ _).alloc (by simp [World.setCell];omega) _,HE2.out⟩
    case round =>
     clear t0 t1 t2 u0 u1 u2 HR4 HX4 HZ4 HT4
     obtain ⟨k,st3,rfl,hk,hr5,ht5,hz5,hx5,he5⟩:=hrel
     have HR5:=Lib.hid hr5
     have HT5:=Lib.hid ht5
     have HZ5:=Lib.hid hz5
     have HX5:=Lib.hid hx5
     have HE5:=Lib.hid he5
     obtain ⟨_,t0,t1,t2,u0,u1,u2⟩:=blk3 ht5
     clear hr5 ht5 hz5 hx5 he5
     by_cases hkn:k<n
     · have HE6:=Lib.hid (HE5.out.trans (tail_step hkn))
       clear HE5
       go_wp2_with fail
       refine (dwant_any _ P g c l st3 ⟨#[62]⟩ [62] (by kernel_rfl) HR5.out).mono ?_
       rintro e W6 ⟨rfl,hr6,hx6⟩
       have HR6:=Lib.hid hr6
       have HX6:=Lib.hid (HX5.out.thenB (Nat.le_refl _) hx6)
       have HZ6:=Lib.hid (blk_exc HZ5.out hx6 (blk_lt HZ5.out) (by omega))
       have HT6:=Lib.hid (blk_exc HT5.out hx6 (blk_lt HT5.out) (by omega))
       clear hr6 hx6 HR5 HX5 HZ5 HT5 t0 t1 t2 u0 u1 u2
       go_wp2
       go_roundw
       case rel=>exact ⟨k+1,_,by go_num,hkn,HR6.out,HT6.out,HZ6.out,HX6.out,HE6.out⟩
       case measure=>simp [intOf];omega
     · have hkn':k=n:=by omega
       subst hkn'
       have HE6:=Lib.hid (step_of (a:=⟨a.text,k,p⟩) ((HXX.out.trans HE5.out).trans (by rw [Nat.sub_self];rfl)))
       obtain ⟨_,z0,z1,z2,y0,y1,y2⟩:=blk3 HZ5.out
       go_wp2
       refine post_gen (fun Wf=>Wf.heap[w.heap.size]?=some (.cells #[.string (strOfNums a.text),.int .i64 k,.int .i64 p] 112 (0,0))∧Exc P w.heap.size w Wf∧DpS Wf P g c l st3) ⟨?_,?_,?_⟩ ?_
       · exact blk_set3 HZ5.out _ _ _
       · exact HX5.out.set3 (Nat.le_refl _) _ _ _
       · exact HR5.out.set3 (by omega) (by omega) _ _ _
       · rintro Wf ⟨f1,f2,f3⟩
         obtain ⟨_,c0,c1,c2,_⟩:=blk3 f1
         exact bodyPost_ret (v:=.agg #[.string (strOfNums a.text),.int .i64 k,.int .i64 p]) (by simp [results,Tryz.results62,go_sem,c0,c1,c2]) rfl ⟨⟨a.text,k,p⟩,rfl,by rw [HE6.out.1];exact f3,f2,HE6.out.2⟩
  · obtain ⟨r1,rfl⟩:∃ r1,st1=.go r1:=by
     have:=HI.out
     cases st1 with
     | go r=>exact ⟨r,rfl⟩
     | fell c p=>cases this
    have HI':Hid (isT 1 wList r1=true):=Lib.hid HI.out
    obtain ⟨hT',t0,t1,t2,u0,u1,u2⟩:=blk3 HT3.out
    by_cases hn3:n=3
    · subst hn3
      have HE:=Lib.hid (step_bad (c:=16) (p:=(hd r1).place) ((HXX.out.trans HEQ.out).trans (by
       show (listsR (3-3) 3 r1).bind (tyEnd p)=_
       rw [lists_many HI'.out]
       rfl)) (⟨[],3,p⟩:RTy))
      have HB:=Lib.hid (dbad_any W3 P g c l (.go r1) 16 (by decide) HR3.out)
      go_wp2_with fail
      refine HB.out.mono ?_
      rintro e W4 ⟨rfl,hr4,hx4⟩
      have HR4:=Lib.hid hr4
      have HX4:=Lib.hid (HX3.out.thenB (Nat.le_refl _) hx4)
      have HZ4:=Lib.hid (blk_exc HZ3.out hx4 (blk_lt HZ3.out) (by omega))
      have HT4:=Lib.hid (blk_exc HT3.out hx4 (blk_lt HT3.out) (by omega))
      clear hr4 hx4 t0 t1 t2 u0 u1 u2 HT3 HR3 HX3 HZ3
      obtain ⟨_,t0,t1,t2,u0,u1,u2⟩:=blk3 HT4.out
      obtain ⟨_,z0,z1,z2,y0,y1,y2⟩:=blk3 HZ4.out
      go_wp2
      refine post_gen (fun Wf=>Wf.heap[w.heap.size]?=some (.cells #[.string ByteArray.empty,.int .i64 (3:Nat),.int .i64 p] 112 (0,0))∧Exc P w.heap.size w Wf∧DpS Wf P g c l (badS 16 (.go r1))) ⟨?_,?_,?_⟩ ?_
      · exact blk_set3 HZ4.out _ _ _
      · exact HX4.out.set3 (Nat.le_refl _) _ _ _
      · exact HR4.out.set3 (by omega) (by omega) _ _ _
      · rintro Wf ⟨f1,f2,f3⟩
        obtain ⟨_,c0,c1,c2,_⟩:=blk3 f1
        exact bodyPost_ret (v:=.agg #[.string ByteArray.empty,.int .i64 (3:Nat),.int .i64 p]) (by simp [results,Tryz.results62,go_sem,c0,c1,c2]) rfl ⟨⟨[],3,p⟩,rfl,by rw [HE.out.1];exact f3,f2,HE.out.2⟩
    · have hn3':n<3:=by omega
      have HE:=Lib.hid (HEQ.out.trans (lists_got hn3' rfl HI'.out))
      have HK:=Lib.hid (show (hd r1).kind≠0 by rw [(isT_kind HI'.out).1];decide)
      have t3:((n:Int)==3)=false:=by simp;omega
      have HR4:Hid (Dp (W3.setCell ⟨T,1,none⟩ (.int .i64 ((n:Int)+1))) P g c l r1 (0,0)):=Lib.hid (HR3.out.set1 (X:=T) (st:=.go r1) (by omega) (by omega) 1 _)
      have HT4:Hid ((W3.setCell ⟨T,1,none⟩ (.int .i64 ((n:Int)+1))).heap[T]?=some (.cells #[.string ByteArray.empty,.int .i64 ((n:Int)+1),.int .i64 p] 112 (0,0))):=Lib.hid ((blk_set HT3.out 1 _).trans rfl)
      have HZ4:=Lib.hid (blk_set_ne (p:=⟨T,1,none⟩) HZ3.out (by simp only;omega) (.int .i64 ((n:Int)+1)))
      have HX4:=Lib.hid (HX3.out.set1 (g:=T) (by omega) 1 (.int .i64 ((n:Int)+1)))
      go_upto_region 7 with (fail)
      generalize W3.setCell ⟨T,1,none⟩ (.int .i64 ((n:Int)+1))=W4 at *
      clear t0 t1 t2 u0 u1 u2 t3
      obtain ⟨_,r0,ra,rb,rc,s1,s2,s3⟩:=blk4 HR4.out.blk
      have hfew:=HR4.out.few
      have hlen:=HR4.out.len
      have HR5:=Lib.hid (dp_next HR4.out HK.out)
      have hx5:Exc P W4.heap.size W4 (W4.setCell ⟨P,1,none⟩ (.int .i64 (((l.length-r1.length:Nat):Int)+1))):=exc_set _ _ _ _
      have HX5:=Lib.hid (HX4.out.thenB (Nat.le_refl _) hx5)
      have HZ5:=Lib.hid (blk_exc HZ4.out hx5 (blk_lt HZ4.out) (by omega))
      have HT5:=Lib.hid (blk_exc HT4.out hx5 (blk_lt HT4.out) (by omega))
      clear hx5
      go_wp2_with fail
      refine (dwant_any _ P g c l (.go r1.tail) ⟨#[60]⟩ [60] (by kernel_rfl) HR5.out).mono ?_
      rintro e W6 ⟨rfl,hr6,hx6⟩
      have HR6:=Lib.hid hr6
      have HX6:=Lib.hid (HX5.out.thenB (Nat.le_refl _) hx6)
      have HZ6:=Lib.hid (blk_exc HZ5.out hx6 (blk_lt HZ5.out) (by omega))
      have HT6:=Lib.hid (blk_exc HT5.out hx6 (blk_lt HT5.out) (by omega))
      clear hr6 hx6
      go_wp2
      go_roundw
      case rel=>exact ⟨n+1,_,by omega,HR6.out,HT6.out,HZ6.out,HX6.out,HE.out⟩
      case measure =>
       rw [(blk3 HT6.out).2.2.1,(blk3 HTm.out).2.2.1]
       simp [numOf]
       omega
end Go.Proofs.YtokhnoogkdlidaaGreatDoor
namespace Go.Proofs.YtokhnoogkdlidaaGreatDoor
open Go.ChangeShapes Go.WideShapes Go.ChangeAt Go.RowKit Go.Shelf
def codeOf:Option Value→Int
 | some (.int _ n)=>n
 | _=>0
def dpM (l:List Tok)(P:Nat)(w:World):Nat:=if codeOf (w.cell? ⟨P,2,none⟩)=0 then l.length+1-numOf (w.cell? ⟨P,1,none⟩) else 0
def Sto.more:Sto→Nat
 | .go r=>r.length+1
 | .fell _ _=>0
def Sto.left:Sto→Nat
 | .go r=>r.length
 | .fell _ _=>0
theorem dpM_more {w:World}{P g c:Nat}{l:List Tok}{st:Sto}(h:DpS w P g c l st):dpM l P w=st.more:=by
 cases st with
 | go r =>
  have hd':Dp w P g c l r (0,0):=h
  obtain ⟨_,r0,r1,r2,_⟩:=blk4 hd'.blk
  have:=hd'.len
  unfold dpM
  rw [r2,r1]
  simp [codeOf,numOf,Sto.more]
  omega
 | fell c' p =>
  obtain ⟨h0,r,hd'⟩:=h
  obtain ⟨_,r0,r1,r2,_⟩:=blk4 hd'.blk
  unfold dpM
  rw [r2]
  simp [codeOf,Sto.more,h0]
theorem step_left {α:Type}{f:List Tok→Res α}{r:List Tok}(h:Eats r (f r))(h1:1≤r.length):((Sto.go r).step f).left+1≤r.length:=by
 generalize hq:f r=q
 cases q with
 | ok a r' =>
  rw [step_ok hq]
  exact (h a r' hq).2
 | no c p =>
  rw [step_no hq]
  exact h1
theorem more_left {st:Sto}{r:List Tok}(h:st.left+1≤r.length):st.more<(Sto.go r).more:=by
 cases st with
 | go r'=>simp only [Sto.left] at h;simp only [Sto.more];omega
 | fell c p=>simp only [Sto.more];omega
theorem stp_leaves {α:Type}{st:Sto}{f:List Tok→Res α}(h:∀ r,st=.go r→Keeps r (f r)):(st.step f).left≤st.left:=by
 cases st with
 | fell c p=>exact Nat.le_refl _
 | go r =>
  generalize hq:f r=q
  cases q with
  | ok a r' =>
   rw [step_ok hq]
   exact ((h r rfl) a r' hq).2
  | no c p =>
   rw [step_no hq]
   exact Nat.zero_le _
theorem DpS.ends {w:World}{P g c:Nat}{l:List Tok}{r:List Tok}(h:DpS w P g c l (.go r)):Ends r:=Dp.ends h
theorem is_word {k:Int}{s:List Int}{st:Sto}(h:isS k s st=true):∃ r,st=.go r∧isT k s r=true:=by
 cases st with
 | go r=>exact ⟨r,rfl,h⟩
 | fell c p=>cases h
theorem comma_takes {r:List Tok}(h:isT 4 [44] r=true):(Sto.go r).step commaR=.go r.tail:=by
 have h1:isT 4 [125] r=false:=by
  have:=(isT_kind h).2
  unfold isT
  rw [this]
  simp
 exact step_ok (a:=()) (by unfold commaR wantR;rw [if_neg (by rw [h1];decide),if_pos h])
theorem comma_brace {r:List Tok}(h:isT 4 [125] r=true):(Sto.go r).step commaR=.go r:=
 step_ok (a:=()) (by unfold commaR;rw [if_pos h])
theorem comma_bad {st:Sto}(h:isS 4 [44] st=false)(h1:isS 4 [125] st=false):st.step commaR=badS 11 st:=by
 cases st with
 | fell c p=>rfl
 | go r =>
  have h':isT 4 [44] r=false:=h
  have h1':isT 4 [125] r=false:=h1
  exact step_no (c:=11) (p:=(hd r).place) (by unfold commaR wantR;rw [if_neg (by rw [h1'];decide),if_neg (by rw [h'];decide)];rfl)
def choTail (t:Tok)(acc:List Tok)(r:List Tok):Res RCho:=(namesL acc r).bind fun ns r3=>.ok ⟨t.text,t.place,ns⟩ r3
theorem cho_round {t a:Tok}{acc r:List Tok}(he:Ends r)(hb:isT 4 [125] r=false)(h:Got (.go r) nameR a):(Sto.go r).rd (choTail t acc)=(((Sto.go r).step nameR).step commaR).rd (choTail t (acc++[a])):=by
 have e:(Sto.go r).rd (choTail t acc)=(Sto.go r).rd (fun r=>(nameR r).bind fun a r1=>(commaR r1).bind fun _ r2=>choTail t (acc++[a]) r2):=by
  show choTail t acc r=(nameR r).bind fun a r1=>(commaR r1).bind fun _ r2=>choTail t (acc++[a]) r2
  unfold choTail
  rw [namesL_step2 he,if_neg (by rw [hb];decide)]
  unfold valueNR
  cases nameR r with
  | no c p=>rfl
  | ok t1 r1 =>
   simp only [bind_ok]
   cases commaR r1 with
   | no c p=>rfl
   | ok b r2=>rfl
 rw [e,got_rd (k:=fun (a:Tok) r1=>(commaR r1).bind fun _ r2=>choTail t (acc++[a]) r2) h]
 exact got_rd (k:=fun (_:Unit) r2=>choTail t (acc++[a]) r2) got_unit
theorem cho_start {st:Sto}{t:Tok}(h:Got st nameR t):st.rd choR=((st.step nameR).step (wantR [123])).rd (choTail t []):=by
 have e:choR=fun r=>(nameR r).bind fun t r1=>(wantR [123] r1).bind fun _ r2=>choTail t [] r2:=by
  funext r
  unfold choR choTail
  rfl
 rw [e,got_rd (k:=fun (t:Tok) r1=>(wantR [123] r1).bind fun _ r2=>choTail t [] r2) h]
 exact got_rd (k:=fun (_:Unit) r2=>choTail t [] r2) got_unit
theorem cho_stop {t:Tok}{acc r:List Tok}(he:Ends r)(h:isT 4 [125] r=true):(Sto.go r).rd (choTail t acc)=(Sto.go r.tail).rd (fun r=>.ok ⟨t.text,t.place,acc⟩ r):=by
 show (namesL acc r).bind _=_
 rw [namesL_step2 he,if_pos h]
 rfl
def DChoAt (P g c:Nat)(l:List Tok)(w:World)(O:Nat)(t:Tok)(X:Res RCho)(wr:World):Prop:=
 ∃ (acc:List Tok) (st1:Sto) (v:Value),DpS wr P g c l st1∧wr.heap[O]?=some (.cells #[.string (strOfNums t.text),.int .i64 t.place,v] 105 (0,0))∧wr.ownsRow (O+1) 97 3 v acc.length (toksCells acc) ∧
  wr.heap[w.heap.size]?=some (.cells #[.string ByteArray.empty,.int .i64 0,.slice none 0 0] 105 (0,0))∧Exc P w.heap.size w wr∧acc.length+st1.left≤l.length∧X=st1.rd (choTail t acc)
end Go.Proofs.YtokhnoogkdlidaaGreatDoor
namespace Go.Proofs.YtokhnoogkdlidaaGreatDoor
open Go.ChangeShapes Go.WideShapes Go.ChangeAt Go.RowKit Go.Shelf
def fld4 (t:Tok)(ty:RTy)(d:Tok):RField:=⟨t.text,t.place,ty,d⟩
def recTail (t:Tok)(acc:List RField)(r:List Tok):Res RRec:=(fieldsL acc r).bind fun ns r3=>.ok ⟨t.text,t.place,ns⟩ r3
theorem rec_start {st:Sto}{t:Tok}(h:Got st nameR t):st.rd recR=((st.step nameR).step (wantR [123])).rd (recTail t []):=by
 have e:recR=fun r=>(nameR r).bind fun t r1=>(wantR [123] r1).bind fun _ r2=>recTail t [] r2:=by
  funext r
  unfold recR recTail
  rfl
 rw [e,got_rd (k:=fun (t:Tok) r1=>(wantR [123] r1).bind fun _ r2=>recTail t [] r2) h]
 exact got_rd (k:=fun (_:Unit) r2=>recTail t [] r2) got_unit
theorem rec_stop {t:Tok}{acc:List RField}{r:List Tok}(he:Ends r)(h:isT 4 [125] r=true):(Sto.go r).rd (recTail t acc)=(Sto.go r.tail).rd (fun r=>.ok ⟨t.text,t.place,acc⟩ r):=by
 show (fieldsL acc r).bind _=_
 rw [fieldsL_step he,if_pos h]
 rfl
theorem res_assoc {α β γ:Type}(x:Res α)(f:α→List Tok→Res β)(g:β→List Tok→Res γ):(x.bind f).bind g=x.bind fun a r=>(f a r).bind g:=by
 cases x<;>rfl
theorem rec_round {a t d:Tok}{ty:RTy}{acc:List RField}{r:List Tok}(he:Ends r)(hb:isT 4 [125] r=false)(h1:Got (.go r) labelR t)(h2:Got (((Sto.go r).step labelR).step (wantR [58])) tyR ty)(h3:Got ((((Sto.go r).step labelR).step (wantR [58])).step tyR) dfltR d) :
  (Sto.go r).rd (recTail a acc)=((((((Sto.go r).step labelR).step (wantR [58])).step tyR).step dfltR).step (wantR [59])).rd (recTail a (acc++[fld4 t ty d])):=by
 have e:(Sto.go r).rd (recTail a acc)=(Sto.go r).rd (fun r=>(labelR r).bind fun t r1=>(wantR [58] r1).bind fun _ r2=>(tyR r2).bind fun ty r3=>(dfltR r3).bind fun d r4=>(wantR [59] r4).bind fun _ r5=>recTail a (acc++[fld4 t ty d]) r5):=by
  show recTail a acc r=(labelR r).bind _
  unfold recTail
  rw [fieldsL_step he,if_neg (by rw [hb];decide)]
  unfold fieldR
  simp only [res_assoc,bind_ok,fld4]
 rw [e,got_rd (k:=fun (t:Tok) (r1:List Tok)=>(wantR [58] r1).bind fun _ r2=>(tyR r2).bind fun ty r3=>(dfltR r3).bind fun d r4=>(wantR [59] r4).bind fun _ r5=>recTail a (acc++[fld4 t ty d]) r5) h1,
  got_rd (f:=wantR [58]) (t:=()) (k:=fun (_:Unit) r2=>(tyR r2).bind fun ty r3=>(dfltR r3).bind fun d r4=>(wantR [59] r4).bind fun _ r5=>recTail a (acc++[fld4 t ty d]) r5) got_unit,
  got_rd (f:=tyR) (t:=ty) (k:=fun (ty:RTy) (r3:List Tok)=>(dfltR r3).bind fun d r4=>(wantR [59] r4).bind fun _ r5=>recTail a (acc++[fld4 t ty d]) r5) h2,
  got_rd (f:=dfltR) (t:=d) (k:=fun (d:Tok) (r4:List Tok)=>(wantR [59] r4).bind fun _ r5=>recTail a (acc++[fld4 t ty d]) r5) h3]
 exact got_rd (f:=wantR [59]) (t:=()) (k:=fun (_:Unit) r5=>recTail a (acc++[fld4 t ty d]) r5) got_unit
theorem dflt_none {st:Sto}(h:isS 4 [61] st=false):st.step dfltR=st∧Got st dfltR noTok:=by
 cases st with
 | fell c p=>exact ⟨rfl,fun _ _ _ e=>by cases e⟩
 | go r =>
  have e:dfltR r=.ok noTok r:=if_neg (by rw [show isT 4 [61] r=false from h];decide)
  exact ⟨step_ok e,fun r' a r2 e1 e2=>by cases e1;rw [e] at e2;exact (Res.ok.inj e2).1⟩
theorem dflt_bad {r:List Tok}(h:isT 4 [61] r=true)(h1:¬((hd r.tail).kind=1∨(hd r.tail).kind=2))(d:Tok):(Sto.go r).step dfltR=.fell 11 (hd r.tail).place∧Got (.go r) dfltR d:=by
 have e:dfltR r=.no 11 (hd r.tail).place:=(if_pos h).trans (if_neg h1)
 exact ⟨step_no e,fun r' a r2 e1 e2=>by cases e1;rw [e] at e2;cases e2⟩
theorem dflt_good {r:List Tok}(h:isT 4 [61] r=true)(h1:(hd r.tail).kind=1∨(hd r.tail).kind=2):(Sto.go r).step dfltR=.go r.tail.tail∧Got (.go r) dfltR (hd r.tail):=by
 have e:dfltR r=.ok (hd r.tail) r.tail.tail:=(if_pos h).trans (if_pos h1)
 exact ⟨step_ok e,fun r' a r2 e1 e2=>by cases e1;rw [e] at e2;exact (Res.ok.inj e2).1⟩
def DRecAt (P g c:Nat)(l:List Tok)(w:World)(O:Nat)(t:Tok)(X:Res RRec)(wr:World):Prop:=
 ∃ (acc:List RField) (st1:Sto) (v:Value),DpS wr P g c l st1∧wr.heap[O]?=some (.cells #[.string (strOfNums t.text),.int .i64 t.place,v] 102 (0,0))∧wr.ownsRow (O+1) 114 8 v acc.length (fieldsCells acc) ∧
  wr.heap[w.heap.size]?=some (.cells #[.string ByteArray.empty,.int .i64 0,.slice none 0 0] 102 (0,0))∧Exc P w.heap.size w wr∧acc.length+st1.left≤l.length∧X=st1.rd (recTail t acc)
def DRecPost (P g c:Nat)(l:List Tok)(w:World)(st:Sto)(e:Ending)(w':World):Prop:=
 ∃ (s:RRec) (v:Value),e=.returned (.agg #[.string (strOfNums s.name),.int .i64 s.place,v])∧w'.ownsRow w.heap.size 114 8 v s.fields.length (fieldsCells s.fields)∧DpS w' P g c l (st.step recR)∧Exc P w.heap.size w w'∧Got st recR s
end Go.Proofs.YtokhnoogkdlidaaGreatDoor
namespace Go.Proofs.YtokhnoogkdlidaaGreatDoor
open Go.ChangeShapes Go.WideShapes Go.ChangeAt Go.RowKit Go.Shelf
theorem kind_ne {k:Int}{s:List Int}{r:List Tok}(h:isT k s r=true)(hk:k≠0):(hd r).kind≠0:=by
 rw [(isT_kind h).1]
 exact hk
theorem sch_end {a:RRaw}{r:List Tok}(he:Ends r)(h:(hd r).kind=0):(Sto.go r).rd (schemaL a)=(Sto.go r).rd (fun r=>.ok a r):=by
 show schemaL a r=.ok a r
 rw [schemaL_step he,if_pos h]
theorem sch_struct {a:RRaw}{r:List Tok}{s:RRec}(he:Ends r)(h:isT 1 wStruct r=true)(hg:Got (.go r.tail) recR s):(Sto.go r).rd (schemaL a)=((Sto.go r.tail).step recR).rd (schemaL ⟨a.structs++[s],a.enums,a.roots⟩):=by
 have e:schemaL a r=(recR r.tail).bind fun s r'=>schemaL ⟨a.structs++[s],a.enums,a.roots⟩ r':=by
  rw [schemaL_step he,if_neg (kind_ne h (by decide))]
  unfold partR
  rw [if_pos h]
  cases recR r.tail<;>rfl
 exact e.trans (got_rd (k:=fun (s:RRec) (r':List Tok)=>schemaL ⟨a.structs++[s],a.enums,a.roots⟩ r') hg)
theorem sch_enum {a:RRaw}{r:List Tok}{s:RCho}(he:Ends r)(h0:isT 1 wStruct r=false)(h:isT 1 wEnum r=true)(hg:Got (.go r.tail) choR s):(Sto.go r).rd (schemaL a)=((Sto.go r.tail).step choR).rd (schemaL ⟨a.structs,a.enums++[s],a.roots⟩):=by
 have e:schemaL a r=(choR r.tail).bind fun s r'=>schemaL ⟨a.structs,a.enums++[s],a.roots⟩ r':=by
  rw [schemaL_step he,if_neg (kind_ne h (by decide))]
  unfold partR
  rw [if_neg (by rw [h0];decide),if_pos h]
  cases choR r.tail<;>rfl
 exact e.trans (got_rd (k:=fun (s:RCho) (r':List Tok)=>schemaL ⟨a.structs,a.enums++[s],a.roots⟩ r') hg)
theorem sch_root {a:RRaw}{r:List Tok}{t:Tok}(he:Ends r)(h0:isT 1 wStruct r=false)(h1:isT 1 wEnum r=false)(h:isT 1 wRoot r=true)(hg:Got (.go r.tail) nameR t) :
  (Sto.go r).rd (schemaL a)=(((Sto.go r.tail).step nameR).step (wantR [59])).rd (schemaL ⟨a.structs,a.enums,a.roots++[t]⟩):=by
 have e:schemaL a r=(nameR r.tail).bind fun t r1=>(wantR [59] r1).bind fun _ r'=>schemaL ⟨a.structs,a.enums,a.roots++[t]⟩ r':=by
  rw [schemaL_step he,if_neg (kind_ne h (by decide))]
  unfold partR
  rw [if_neg (by rw [h0];decide),if_neg (by rw [h1];decide),if_pos h]
  cases nameR r.tail with
  | no c p=>rfl
  | ok t r1 =>
   simp only [bind_ok]
   cases wantR [59] r1<;>rfl
 refine e.trans ((got_rd (k:=fun (t:Tok) (r1:List Tok)=>(wantR [59] r1).bind fun _ r'=>schemaL ⟨a.structs,a.enums,a.roots++[t]⟩ r') hg).trans ?_)
 exact got_rd (k:=fun (_:Unit) (r':List Tok)=>schemaL ⟨a.structs,a.enums,a.roots++[t]⟩ r') got_unit
theorem sch_bad {a:RRaw}{r:List Tok}(he:Ends r)(hk:(hd r).kind≠0)(h0:isT 1 wStruct r=false)(h1:isT 1 wEnum r=false)(h2:isT 1 wRoot r=false) :
  (Sto.go r).rd (schemaL a)=(badS 11 (.go r)).rd (schemaL a):=by
 show schemaL a r=.no 11 (hd r).place
 rw [schemaL_step he,if_neg hk]
 unfold partR
 rw [if_neg (by rw [h0];decide),if_neg (by rw [h1];decide),if_neg (by rw [h2];decide)]
 rfl
end Go.Proofs.YtokhnoogkdlidaaGreatDoor
