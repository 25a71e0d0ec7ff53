/-
  Maps of the call's own whose keys are texts: 'MapAt W b l': block b of W is a map with these keys and values; what a look-up and a store of a new key do to it. Conditions: those that each theorem names.
-/
import Derived.Test.YtokhnoogkdlidaaGreatDoorPkP1
import Derived.Test.YtokhnoogkdlidaaGreatDoorPkP4
import Derived.Test.YtokhnoogkdlidaaGreatDoorPkP6
import Derived.Test.YtokhnoogkdlidaaGreatDoorRows
import Derived.WalkKit
import Derived.ProofKit
import Derived.OpenShut
import Derived.ShutString
import Derived.ChangeOld
import Derived.Below
import Derived.WalkLawsBesides
import Derived.WalkSpells
import Derived.Lib.Hide
import Derived.Outline
import Derived.Handy
import Derived.Maps.Own
namespace Go.Proofs.YtokhnoogkdlidaaGreatDoor
open Go.ChangeShapes Go.WideShapes Go.ChangeAt Go.RowKit Go.Shelf
def tyV (t:RTy):Value:=.agg #[.string (strOfNums t.name),.int .i64 t.lists,.int .i64 t.place]
def numOf:Option Value→Nat
 | some (.int _ n)=>n.toNat
 | _=>0
def tyEnd (p n:Nat)(r:List Tok):Res RTy:=(nameR r).bind fun t r2=>(closeR n r2).bind fun _ r3=>.ok ⟨t.text,n,p⟩ r3
def TyAt (R g c:Nat)(l r:List Tok)(w:World)(T:Nat)(wr:World):Prop:=
 ∃ (n:Nat) (r1:List Tok),n≤3∧Rd wr R g c l r1 (0,0)∧wr.heap[T]?=some (.cells #[.string ByteArray.empty,.int .i64 n,.int .i64 (hd r).place] 112 (0,0)) ∧
  wr.heap[w.heap.size]?=some (.cells #[.string ByteArray.empty,.int .i64 0,.int .i64 0] 112 (0,0))∧Exc R w.heap.size w wr∧tyR r=(listsR (3-n) n r1).bind (tyEnd (hd r).place)
theorem lists_step {n:Nat}{r:List Tok}(hn:n<3)(h:isT 1 wList r=true):listsR (3-n) n r=(wantR [60] r.tail).bind fun _ r'=>listsR (3-(n+1)) (n+1) r':=by
 rw [show 3-n=(3-(n+1))+1 by omega]
 conv=>lhs;unfold listsR
 rw [if_pos h]
theorem lists_stop {n f:Nat}{r:List Tok}(h:isT 1 wList r=false):listsR f n r=.ok n r:=by
 unfold listsR
 rw [if_neg (by rw [h];decide)]
theorem lists_many {r:List Tok}(h:isT 1 wList r=true):listsR (3-3) 3 r=.no 16 (hd r).place:=by
 unfold listsR
 rw [if_pos h]
 rfl
theorem close_step {n k:Nat}{r:List Tok}(h:k<n):closeR (n-k) r=(wantR [62] r).bind fun _ r'=>closeR (n-(k+1)) r':=by
 rw [show n-k=(n-(k+1))+1 by omega]
 rfl
def CloseAt (R g c:Nat)(l:List Tok)(w:World)(T n:Nat)(x p:Value)(r0:List Tok)(i:Value)(wr:World):Prop:=
 ∃ (k:Nat) (r1:List Tok),i=.int .i64 k∧k≤n∧Rd wr R g c l r1 (0,0)∧wr.heap[T]?=some (.cells #[x,.int .i64 n,p] 112 (0,0)) ∧
  wr.heap[w.heap.size]?=some (.cells #[.string ByteArray.empty,.int .i64 0,.int .i64 0] 112 (0,0))∧Exc R w.heap.size w wr∧closeR n r0=closeR (n-k) r1
set_option maxRecDepth 100000 in
set_option maxHeartbeats 2000000 in
theorem written_any (w:World)(R g c:Nat)(l r:List Tok)(h:Rd w R g c l r (0,0)) :
  Calls Tryz.prog 141 #[.pointer (some ⟨R,0,none⟩)] w (PostR tyV R g c l w (tyR r)):=by
 have HB0:=Lib.hid (heap_alloc_new w (.cells #[.string ByteArray.empty,.int .i64 0,.int .i64 0] 112))
 have hbA:Below w.heap.size w (w.alloc (.cells #[.string ByteArray.empty,.int .i64 0,.int .i64 0] 112)):=(Below.refl _ _).alloc (Nat.le_refl _) _
 have HBA:=Lib.hid hbA
 have HD:=Lib.hid (h.keep hbA)
 have HH:=Lib.hid (here_any _ R g c l r (0,0) HD.out)
 have hR:=blk_lt h.blk
 have hg:=h.glt
 have hf:=fld2
 clear h hbA
 unfold tokV at HH
 go_enter Tryz.func141,Tryz.ntmps141
 go_wp2_with fail
 refine HH.out.mono ?_
 rintro e W1 ⟨rfl,hb1⟩
 have HB1:=Lib.hid (HBA.out.trans (hb1.mono HBA.out.size))
 have HD1:=Lib.hid (HD.out.keep hb1)
 have HZ1:=Lib.hid (blk_below HB0.out hb1 (by simp))
 have hT:w.heap.size<W1.heap.size:=blk_lt HZ1.out
 clear hb1
 go_wp2_with fail
 have hbT:Below W1.heap.size W1 (W1.alloc (.cells #[.string ⟨#[]⟩,.int .i64 0,.int .i64 (hd r).place] 112)):=(Below.refl _ _).alloc (Nat.le_refl _) _
 have HRD:=Lib.hid (HD1.out.keep hbT)
 have HX:=Lib.hid ((Exc.of_below (R:=R) HB1.out).thenB (Nat.le_refl _) (.of_below hbT))
 have HZ:=Lib.hid (blk_below HZ1.out hbT hT)
 have HT:=Lib.hid (heap_alloc_new W1 (.cells #[.string ⟨#[]⟩,.int .i64 0,.int .i64 (hd r).place] 112))
 have HTY:Hid (tyR r=(listsR (3-0) 0 r).bind (tyEnd (hd r).place)):=Lib.hid rfl
 clear hbT hf HH HD HD1 HB0 HBA HB1 HZ1
 generalize (W1.alloc (.cells #[.string ⟨#[]⟩,.int .i64 0,.int .i64 (hd r).place] 112))=W2 at *
 generalize W1.heap.size=T at *
 go_loopw [] (fun wr=>TyAt R g c l r w T wr) (fun wr=>3-numOf (wr.cell? ⟨T,1,none⟩))
 case atStart=>exact ⟨0,r,by decide,HRD.out,HT.out,HZ.out,HX.out,HTY.out⟩
 case round =>
  clear HRD HX HZ HT HTY
  obtain ⟨n,r1,hn,hrd,ht,hz,hx,heq⟩:=hrel
  have HRD:=Lib.hid hrd
  have HT:=Lib.hid ht
  have HTm:=Lib.hid ht
  have HZ:=Lib.hid hz
  have HX:=Lib.hid hx
  have HEQ:=Lib.hid heq
  clear hrd ht hz hx heq
  go_wp2_with fail
  refine (rdStands_any _ R g c l r1 (0,0) 1 ⟨#[108,105,115,116]⟩ wList (by kernel_rfl) HRD.out).mono ?_
  rintro e W3 ⟨rfl,hb3⟩
  have HR3:=Lib.hid (HRD.out.keep hb3)
  have HT3:=Lib.hid (blk_below HT.out hb3 (blk_lt HT.out))
  have HZ3:=Lib.hid (blk_below HZ.out hb3 (blk_lt HZ.out))
  have HX3:=Lib.hid (HX.out.bel (Nat.le_refl _) hb3)
  clear hb3 HRD HT HZ HX
  generalize hi:isT 1 wList r1=b
  have HI:=Lib.hid hi
  clear hi
  cases b
  · have HE:=Lib.hid (HEQ.out.trans (by rw [lists_stop HI.out];rfl:_=tyEnd (hd r).place n r1))
    clear HEQ
    go_wp2_with fail
    refine (name_any _ R g c l r1 HR3.out).mono ?_
    rintro e W4 ⟨a,r4,F4,ok4,rfl,hr4,hx4,hs4⟩
    have HR4:=Lib.hid hr4
    have HX4:=Lib.hid (HX3.out.thenB (Nat.le_refl _) hx4)
    have HZ4:=Lib.hid (blk_exc HZ3.out hx4 (blk_lt HZ3.out) (by omega))
    have HT4:=Lib.hid (blk_exc HT3.out hx4 (blk_lt HT3.out) (by omega))
    have HS4:=Lib.hid hs4
    clear hr4 hx4 hs4 HR3 HX3 HZ3 HT3
    unfold tokV
    generalize hq:nameR r1=q at *
    have HQ:=Lib.hid hq
    clear hq
    obtain ⟨a',r4'⟩|⟨cc,pp⟩:=q
    · obtain ⟨rfl,rfl,rfl,rfl⟩:=HS4.out
      have HE2:=Lib.hid (HE.out.trans (by unfold tyEnd;rw [HQ.out];rfl:_=(closeR n r4).bind fun _ r3=>.ok ⟨a.text,n,(hd r).place⟩ r3))
      clear HS4 HQ HE
      obtain ⟨hT',t0,t1,t2,u0,u1,u2⟩:=blk3 HT4.out
      go_wp2_with fail
      go_loopw [42] (fun i wr=>CloseAt R g c l w T n (.string (strOfNums a.text)) (.int .i64 (hd r).place) r4 i wr) (fun i _=>n-(intOf i).toNat)
      case atStart=>exact ⟨0,r4,rfl,Nat.zero_le _,(HR4.out.set1 (by omega) (by omega) _ _).alloc _,blk_alloc ((blk_set HT4.out 0 _).trans rfl) _,blk_alloc (blk_set_ne HZ4.out (by simp only;omega) _) _,(HX4.out.set1 (by omega) _ _).alloc (by simp [World.setCell];omega) _,rfl⟩
      case round =>
       clear t0 t1 t2 u0 u1 u2 HR4 HX4 HZ4 HT4
       obtain ⟨k,r5,rfl,hk,hr5,ht5,hz5,hx5,he5⟩:=hrel
       have HR5:=Lib.hid hr5
       have HT5:=Lib.hid ht5
       have HZ5:=Lib.hid hz5
       have HX5:=Lib.hid hx5
       have HE5:=Lib.hid he5
       clear hr5 ht5 hz5 hx5 he5
       by_cases hkn:k<n
       · have HE6:=Lib.hid (HE5.out.trans (close_step hkn))
         clear HE5
         go_wp2_with fail
         refine (want_any _ R g c l r5 ⟨#[62]⟩ [62] (by kernel_rfl) HR5.out).mono ?_
         rintro e W6 ⟨r6,F6,ok6,rfl,hr6,hx6,hs6⟩
         have HR6:=Lib.hid hr6
         have HX6:=Lib.hid (HX5.out.thenB (Nat.le_refl _) hx6)
         have HZ6:=Lib.hid (blk_exc HZ5.out hx6 (blk_lt HZ5.out) (by omega))
         have HT6:=Lib.hid (blk_exc HT5.out hx6 (blk_lt HT5.out) (by omega))
         have HS6:=Lib.hid hs6
         clear hr6 hx6 hs6 HR5 HX5 HZ5 HT5
         generalize wantR [62] r5=q at *
         obtain ⟨a',r6'⟩|⟨cc,pp⟩:=q
         · obtain ⟨rfl,_,rfl,rfl⟩:=HS6.out
           have HE7:=Lib.hid (HE6.out.trans (rfl:_=closeR (n-(k+1)) r6))
           go_wp2
           go_roundw
           case rel=>exact ⟨k+1,r6,by go_num,hkn,HR6.out,HT6.out,HZ6.out,HX6.out,HE7.out⟩
           case measure=>simp [intOf];omega
         · obtain ⟨rfl,rfl⟩:=HS6.out
           have HE7:=Lib.hid (HE2.out.trans (by rw [HE6.out];rfl:_=Res.no cc pp))
           obtain ⟨hz,z0,z1,z2,y0,y1,y2⟩:=blk3 HZ6.out
           go_wp2
           refine post_gen (End3 w R g c l r6 (cc,pp) 112 (.string ⟨#[]⟩) (.int .i64 0) (.int .i64 0)) (end3 HZ6.out HX6.out HR6.out hR hg _ _ _) ?_
           rintro Wf ⟨f1,f2,f3⟩
           obtain ⟨_,c0,c1,c2,_⟩:=blk3 f1
           exact bodyPost_ret (v:=.tuple #[.agg #[.string ⟨#[]⟩,.int .i64 0,.int .i64 0],.bool false]) (by simp [results,Tryz.results141,go_sem,c0,c1,c2]) rfl ⟨noTy,r6,_,false,rfl,f3,f2,by rw [HE7.out];exact ⟨rfl,rfl⟩⟩
       · obtain rfl:k=n:=by omega
         have HE6:=Lib.hid (HE2.out.trans (by rw [HE5.out,Nat.sub_self];rfl:_=Res.ok ⟨a.text,k,(hd r).place⟩ r5))
         obtain ⟨hT5,t0,t1,t2,u0,u1,u2⟩:=blk3 HT5.out
         obtain ⟨hz,z0,z1,z2,y0,y1,y2⟩:=blk3 HZ5.out
         go_wp2
         refine post_gen (End3 w R g c l r5 (0,0) 112 (.string (strOfNums a.text)) (.int .i64 k) (.int .i64 (hd r).place)) (end3 HZ5.out HX5.out HR5.out hR hg _ _ _) ?_
         rintro Wf ⟨f1,f2,f3⟩
         obtain ⟨_,c0,c1,c2,_⟩:=blk3 f1
         exact bodyPost_ret (v:=.tuple #[.agg #[.string (strOfNums a.text),.int .i64 k,.int .i64 (hd r).place],.bool true]) (by simp [results,Tryz.results141,go_sem,c0,c1,c2]) rfl ⟨⟨a.text,k,(hd r).place⟩,r5,_,true,rfl,f3,f2,by rw [HE6.out];exact ⟨rfl,rfl,rfl,rfl⟩⟩
    · obtain ⟨rfl,rfl⟩:=HS4.out
      have HE2:=Lib.hid (HE.out.trans (by unfold tyEnd;rw [HQ.out];rfl:_=.no cc pp))
      clear HS4 HQ HE
      obtain ⟨hz,z0,z1,z2,y0,y1,y2⟩:=blk3 HZ4.out
      go_wp2
      refine post_gen (End3 w R g c l r4 (cc,pp) 112 (.string ⟨#[]⟩) (.int .i64 0) (.int .i64 0)) (end3a (end3 HZ4.out HX4.out HR4.out hR hg _ _ _) _) ?_
      rintro Wf ⟨f1,f2,f3⟩
      obtain ⟨_,c0,c1,c2,_⟩:=blk3 f1
      exact bodyPost_ret (v:=.tuple #[.agg #[.string ⟨#[]⟩,.int .i64 0,.int .i64 0],.bool false]) (by simp [results,Tryz.results141,go_sem,c0,c1,c2]) rfl ⟨noTy,r4,_,false,rfl,f3,f2,by rw [HE2.out];exact ⟨rfl,rfl⟩⟩
  · have HK:=Lib.hid (show (hd r1).kind≠0 by rw [(isT_kind HI.out).1];decide)
    by_cases h3:n=3
    · subst h3
      have HE:=Lib.hid (HEQ.out.trans (by rw [lists_many HI.out];rfl:_=.no 16 (hd r1).place))
      obtain ⟨hT',t0,t1,t2,u0,u1,u2⟩:=blk3 HT3.out
      go_wp2_with fail
      refine (refuse_any _ R g c l r1 (0,0) 16 HR3.out).mono ?_
      rintro e W4 ⟨rfl,hr4,hx4⟩
      have HR4:=Lib.hid hr4
      have HX4:=Lib.hid (HX3.out.thenB (Nat.le_refl _) hx4)
      have HZ4:=Lib.hid (blk_exc HZ3.out hx4 (blk_lt HZ3.out) (by omega))
      obtain ⟨hz,z0,z1,z2,y0,y1,y2⟩:=blk3 HZ4.out
      clear hr4 hx4 t0 t1 t2 u0 u1 u2
      go_wp2
      refine post_gen (End3 w R g c l r1 (16,(hd r1).place) 112 (.string ⟨#[]⟩) (.int .i64 0) (.int .i64 0)) (end3 HZ4.out HX4.out HR4.out hR hg _ _ _) ?_
      rintro Wf ⟨f1,f2,f3⟩
      obtain ⟨_,c0,c1,c2,_⟩:=blk3 f1
      exact bodyPost_ret (v:=.tuple #[.agg #[.string ⟨#[]⟩,.int .i64 0,.int .i64 0],.bool false]) (by simp [results,Tryz.results141,go_sem,c0,c1,c2]) rfl ⟨noTy,r1,_,false,rfl,f3,f2,by rw [HE.out];exact ⟨rfl,rfl⟩⟩
    · have t3:((n:Int)==3)=false:=by simp;omega
      have HE:=Lib.hid (HEQ.out.trans (by rw [lists_step (by omega) HI.out]))
      clear HEQ
      obtain ⟨hT',t0,t1,t2,u0,u1,u2⟩:=blk3 HT3.out
      go_wp2_with fail
      refine (take_any _ R g c l r1 (0,0) HR3.out HK.out).mono ?_
      rintro e W4 ⟨rfl,hr4,hx4⟩
      have HR4:=Lib.hid hr4
      have HX4:=Lib.hid (HX3.out.thenB (Nat.le_refl _) hx4)
      have HZ4:=Lib.hid (blk_exc HZ3.out hx4 (blk_lt HZ3.out) (by omega))
      have HT4:=Lib.hid (blk_exc HT3.out hx4 (blk_lt HT3.out) (by omega))
      clear hr4 hx4 t0 t1 t2 u0 u1 u2 HR3 HX3 HZ3 HT3
      go_wp2_with fail
      refine (want_any _ R g c l r1.tail ⟨#[60]⟩ [60] (by kernel_rfl) HR4.out).mono ?_
      rintro e W5 ⟨r5,F5,ok5,rfl,hr5,hx5,hs5⟩
      have HR5:=Lib.hid hr5
      have HX5:=Lib.hid (HX4.out.thenB (Nat.le_refl _) hx5)
      have HZ5:=Lib.hid (blk_exc HZ4.out hx5 (blk_lt HZ4.out) (by omega))
      have HT5:=Lib.hid (blk_exc HT4.out hx5 (blk_lt HT4.out) (by omega))
      have HS5:=Lib.hid hs5
      clear hr5 hx5 hs5 HR4 HX4 HZ4 HT4
      generalize hq:wantR [60] r1.tail=q at *
      have HQ:=Lib.hid hq
      clear hq
      obtain ⟨a',r5'⟩|⟨cc,pp⟩:=q
      · obtain ⟨rfl,_,rfl,rfl⟩:=HS5.out
        have HE2:=Lib.hid (HE.out.trans (rfl:_=(listsR (3-(n+1)) (n+1) r5).bind (tyEnd (hd r).place)))
        obtain ⟨hT',t0,t1,t2,u0,u1,u2⟩:=blk3 HT5.out
        go_wp2
        go_roundw
        case rel=>exact ⟨n+1,r5,by omega,HR5.out.set1 (by omega) (by omega) _ _,(blk_set HT5.out 1 _).trans rfl,blk_set_ne HZ5.out (by simp only;omega) _,HX5.out.set1 (by omega) _ _,HE2.out⟩
        case measure=>rw [blk_cell (blk_set HT5.out 1 _),blk_cell HTm.out];simp [numOf];omega
      · obtain ⟨rfl,rfl⟩:=HS5.out
        have HE2:=Lib.hid (HE.out.trans (rfl:_=Res.no cc pp))
        obtain ⟨hz,z0,z1,z2,y0,y1,y2⟩:=blk3 HZ5.out
        go_wp2
        refine post_gen (End3 w R g c l r5 (cc,pp) 112 (.string ⟨#[]⟩) (.int .i64 0) (.int .i64 0)) (end3 HZ5.out HX5.out HR5.out hR hg _ _ _) ?_
        rintro Wf ⟨f1,f2,f3⟩
        obtain ⟨_,c0,c1,c2,_⟩:=blk3 f1
        exact bodyPost_ret (v:=.tuple #[.agg #[.string ⟨#[]⟩,.int .i64 0,.int .i64 0],.bool false]) (by simp [results,Tryz.results141,go_sem,c0,c1,c2]) rfl ⟨noTy,r5,_,false,rfl,f3,f2,by rw [HE2.out];exact ⟨rfl,rfl⟩⟩
end Go.Proofs.YtokhnoogkdlidaaGreatDoor
namespace Go.Proofs.YtokhnoogkdlidaaGreatDoor
open Go.ChangeShapes Go.WideShapes Go.ChangeAt Go.RowKit
def u8From (zs:List Int):Nat→Nat→Int
 | 0,_ => -1
 | fuel+1,i=>if i<zs.length then (if (dec (zs.drop i)).1=65533∧(dec (zs.drop i)).2=1 then (i:Int) else u8From zs fuel (i+(dec (zs.drop i)).2.toNat)) else -1
def u8At (zs:List Int)(i:Nat):Int:=u8From zs (zs.length+1) i
theorem u8From_fuel (zs:List Int):∀ (f g i:Nat),zs.length<f+i→zs.length<g+i→u8From zs f i=u8From zs g i
 | 0,0,_,_,_=>rfl
 | 0,g+1,i,hf,_=>by simp only [u8From];rw [if_neg (by omega)]
 | f+1,0,i,_,hg=>by simp only [u8From];rw [if_neg (by omega)]
 | f+1,g+1,i,hf,hg=>by
  simp only [u8From]
  by_cases h:i<zs.length
  · have hw:=dec_width (zs.drop i) (by simp;omega)
    rw [if_pos h,if_pos h,u8From_fuel zs f g (i+(dec (zs.drop i)).2.toNat) (by omega) (by omega)]
  · rw [if_neg h,if_neg h]
theorem u8At_end (zs:List Int)(i:Nat)(h:zs.length≤i):u8At zs i = -1:=by
 unfold u8At u8From
 rw [if_neg (by omega)]
theorem u8At_bad (zs:List Int)(i:Nat)(h:i<zs.length)(h1:(dec (zs.drop i)).1=65533)(h2:(dec (zs.drop i)).2=1):u8At zs i=i:=by
 unfold u8At u8From
 rw [if_pos h,if_pos ⟨h1,h2⟩]
theorem u8At_good (zs:List Int)(i:Nat)(h:i<zs.length)(h1:¬((dec (zs.drop i)).1=65533∧(dec (zs.drop i)).2=1)):u8At zs i=u8At zs (i+(dec (zs.drop i)).2.toNat):=by
 have hw:=dec_width (zs.drop i) (by simp;omega)
 conv=>lhs;unfold u8At u8From
 rw [if_pos h,if_neg h1]
 exact u8From_fuel zs _ _ _ (by omega) (by omega)
theorem dec_at (zs:List Int)(i:Nat)(b off cap:Nat)(w:World)(hT:Tabs w)(hc:∀ i,i<zs.length→w.cell? ⟨b,off+i,none⟩=some (.int .u8 (zs.getD i 0)))(hb:∀ i,0≤zs.getD i 0∧zs.getD i 0≤255) :
  Calls Tryz.prog 134 #[.slice (some ⟨b,off+i,none⟩) (zs.length-i) cap] w fun e w'=>e=.returned (.tuple #[.int .i32 (dec (zs.drop i)).1,.int .i64 (dec (zs.drop i)).2])∧Below w.heap.size w w':=by
 have h:=dec_any (zs.drop i) b (off+i) cap w hT (fun j hj=>by
  have:=hc (i+j) (by simp at hj;omega)
  rw [Nat.add_assoc,this]
  simp [List.getD]) (fun j=>by
  have:=hb (i+j)
  simpa [List.getD] using this)
 simp only [List.length_drop] at h
 exact h
theorem wutf8_some (b off cap:Nat)(zs:List Int)(w:World)(hT:Tabs w)(hb:∀ i,0≤zs.getD i 0∧zs.getD i 0≤255)(hlt:zs≠[]→b<w.heap.size)(hc:∀ i,i<zs.length→w.cell? ⟨b,off+i,none⟩=some (.int .u8 (zs.getD i 0)))
  (hl:(zs.length:Int)≤9223372036854775807) (hcap:zs.length≤cap) :
  Calls Tryz.prog 123 #[.slice (some ⟨b,off,none⟩) zs.length cap] w fun e w'=>e=.returned (.int .i64 (u8At zs 0))∧Below w.heap.size w w':=by
 obtain ⟨n,hn⟩:∃ n,n=zs.length:=⟨_,rfl⟩
 have HN:=Lib.hid hn
 have HP:=Lib.hid hc
 have HB:=Lib.hid hb
 have HL:=Lib.hid hlt
 have HT:=Lib.hid hT
 rw [←hn] at hl hcap ⊢
 clear hc hb hn hlt hT
 go_enter Tryz.func123,Tryz.ntmps123
 go_wp2
 go_loopw [3,9] (fun x i wr=>Below w.heap.size w wr∧∃ k j:Nat,k≤j∧j≤n∧i=.int .i64 k∧x=.int .i64 j∧u8At zs 0=u8At zs j) (fun _ i _=>n-(intOf i).toNat)
 case atStart=>exact ⟨Below.refl _ _,0,0,Nat.le_refl _,Nat.zero_le _,rfl,rfl,rfl⟩
 case round =>
  obtain ⟨hbel,k,j,hkj,hjn,rfl,rfl,hans⟩:=hrel
  have HA:=Lib.hid hans
  clear hans
  by_cases hlt:k<n
  · by_cases hkj':k<j
    · go_wp2
      go_roundw
      case rel=>exact ⟨hbel,k+1,j,by omega,hjn,by go_num,rfl,HA.out⟩
      case measure=>simp [intOf];omega
    · obtain rfl:k=j:=by omega
      have hk:k<zs.length:=by rw [←HN.out];exact hlt
      have hw:=dec_width (zs.drop k) (by simp;omega)
      have hbs:b<w.heap.size:=HL.out (by intro h;rw [h] at hk;simp at hk)
      have D:=dec_at zs k b off (cap-k) _ (HT.out.below (Nat.le_refl _) hbel) (fun i hi=>(hbel.cell (p:=⟨b,off+i,none⟩) hbs).trans (HP.out i hi)) HB.out
      rw [←HN.out] at D
      have hbad:=u8At_bad zs k hk
      have hgood:=u8At_good zs k hk
      have hw3:(dec (zs.drop k)).2≤n-k:=by have h2:=hw.2.2;have h3:=HN.out;simp at h2;omega
      clear hk hbs
      generalize (dec (zs.drop k)).1=R at D hbad hgood hw hw3
      generalize (dec (zs.drop k)).2=K at D hbad hgood hw hw3
      obtain ⟨hw1,hw2,_⟩:=hw
      by_cases hx:R=65533∧K=1
      · have E:=Lib.hid (hbad hx.1 hx.2)
        have t1:(R==65533)=true:=by simp [hx.1]
        have t2:(K==1)=true:=by simp [hx.2]
        have HD:=Lib.hid D
        clear hbad hgood hx D
        go_wp2_with (go_at_call 134;refine HD.out.mono ?_;rintro e w1 ⟨rfl,hb1⟩)
        go_ret
        exact ⟨ret_int (by rw [HA.out,E.out]),hbel.trans (hb1.mono hbel.size)⟩
      · have E:=Lib.hid (hgood hx)
        have HD:=Lib.hid D
        have HA2:Hid (u8At zs 0=u8At zs (k+K.toNat)):=HA.out.trans E.out
        clear hbad hgood D E HA
        by_cases hr:R=65533
        · have t1:(R==65533)=true:=by simp [hr]
          have t2:(K==1)=false:=by simp;exact fun h=>hx ⟨hr,h⟩
          clear hx hr
          go_wp2_with (go_at_call 134;refine HD.out.mono ?_;rintro e w1 ⟨rfl,hb1⟩)
          go_roundw
          case rel=>exact ⟨hbel.trans (hb1.mono hbel.size),k+1,k+K.toNat,by omega,by omega,by go_num,by rw [show ((k+K.toNat:Nat):Int)=k+K from by omega],HA2.out⟩
          case measure=>simp [intOf];omega
        · have t1:(R==65533)=false:=by simp [hr]
          clear hx hr
          go_wp2_with (go_at_call 134;refine HD.out.mono ?_;rintro e w1 ⟨rfl,hb1⟩)
          go_roundw
          case rel=>exact ⟨hbel.trans (hb1.mono hbel.size),k+1,k+K.toNat,by omega,by omega,by go_num,by rw [show ((k+K.toNat:Nat):Int)=k+K from by omega],HA2.out⟩
          case measure=>simp [intOf];omega
  · go_wp2
    go_ret
    have hj:j=n:=by omega
    exact ⟨ret_int (by rw [HA.out,u8At_end _ _ (by rw [hj,HN.out];exact Nat.le_refl _)]),hbel⟩
theorem rutf8_some (b off cap:Nat)(zs:List Int)(w:World)(hT:Tabs w)(hb:∀ i,0≤zs.getD i 0∧zs.getD i 0≤255)(hlt:zs≠[]→b<w.heap.size)(hc:∀ i,i<zs.length→w.cell? ⟨b,off+i,none⟩=some (.int .u8 (zs.getD i 0)))
  (hl:(zs.length:Int)≤9223372036854775807) (hcap:zs.length≤cap) :
  Calls Tryz.prog 115 #[.slice (some ⟨b,off,none⟩) zs.length cap] w fun e w'=>e=.returned (.int .i64 (u8At zs 0))∧Below w.heap.size w w':=by
 obtain ⟨n,hn⟩:∃ n,n=zs.length:=⟨_,rfl⟩
 have HN:=Lib.hid hn
 have HP:=Lib.hid hc
 have HB:=Lib.hid hb
 have HL:=Lib.hid hlt
 have HT:=Lib.hid hT
 rw [←hn] at hl hcap ⊢
 clear hc hb hn hlt hT
 go_enter Tryz.func115,Tryz.ntmps115
 go_wp2
 go_loopw [3] (fun i wr=>Below w.heap.size w wr∧∃ k:Nat,k≤n∧i=.int .i64 k∧u8At zs 0=u8At zs k) (fun i _=>n-(intOf i).toNat)
 case atStart=>exact ⟨Below.refl _ _,0,Nat.zero_le _,rfl,rfl⟩
 case round =>
  obtain ⟨hbel,k,hkn,rfl,hans⟩:=hrel
  have HA:=Lib.hid hans
  clear hans
  by_cases hlt:k<n
  · have hk:k<zs.length:=by rw [←HN.out];exact hlt
    have hw:=dec_width (zs.drop k) (by simp;omega)
    have hbs:b<w.heap.size:=HL.out (by intro h;rw [h] at hk;simp at hk)
    have D:=dec_at zs k b off (cap-k) _ (HT.out.below (Nat.le_refl _) hbel) (fun i hi=>(hbel.cell (p:=⟨b,off+i,none⟩) hbs).trans (HP.out i hi)) HB.out
    rw [←HN.out] at D
    have hbad:=u8At_bad zs k hk
    have hgood:=u8At_good zs k hk
    have hw3:(dec (zs.drop k)).2≤n-k:=by have h2:=hw.2.2;have h3:=HN.out;simp at h2;omega
    clear hk hbs
    generalize (dec (zs.drop k)).1=R at D hbad hgood hw hw3
    generalize (dec (zs.drop k)).2=K at D hbad hgood hw hw3
    obtain ⟨hw1,hw2,_⟩:=hw
    by_cases hx:R=65533∧K=1
    · have E:=Lib.hid (hbad hx.1 hx.2)
      have t1:(R==65533)=true:=by simp [hx.1]
      have t2:K≤1:=by omega
      have HD:=Lib.hid D
      clear hbad hgood hx D
      go_wp2_with (go_at_call 134;refine HD.out.mono ?_;rintro e w1 ⟨rfl,hb1⟩)
      go_ret
      exact ⟨ret_int (by rw [HA.out,E.out]),hbel.trans (hb1.mono hbel.size)⟩
    · have E:=Lib.hid (hgood hx)
      have HD:=Lib.hid D
      have HA2:Hid (u8At zs 0=u8At zs (k+K.toNat)):=HA.out.trans E.out
      clear hbad hgood D E HA
      by_cases hr:R=65533
      · have t1:(R==65533)=true:=by simp [hr]
        have t2:¬K≤1:=fun h=>hx ⟨hr,by omega⟩
        clear hx hr
        go_wp2_with (go_at_call 134;refine HD.out.mono ?_;rintro e w1 ⟨rfl,hb1⟩)
        go_roundw
        case rel=>exact ⟨hbel.trans (hb1.mono hbel.size),k+K.toNat,by omega,by rw [show ((k+K.toNat:Nat):Int)=k+K from by omega],HA2.out⟩
        case measure=>simp [intOf];omega
      · have t1:(R==65533)=false:=by simp [hr]
        clear hx hr
        go_wp2_with (go_at_call 134;refine HD.out.mono ?_;rintro e w1 ⟨rfl,hb1⟩)
        go_roundw
        case rel=>exact ⟨hbel.trans (hb1.mono hbel.size),k+K.toNat,by omega,by rw [show ((k+K.toNat:Nat):Int)=k+K from by omega],HA2.out⟩
        case measure=>simp [intOf];omega
  · go_wp2
    go_ret
    have hj:k=n:=by omega
    exact ⟨ret_int (by rw [HA.out,u8At_end _ _ (by rw [hj,HN.out];exact Nat.le_refl _)]),hbel⟩
theorem rutf8_none (p:Option Addr)(cap:Nat)(w:World) :
  Calls Tryz.prog 115 #[.slice p 0 cap] w fun e w'=>e=.returned (.int .i64 (-1))∧w=w':=by
 go_enter Tryz.func115,Tryz.ntmps115
 go_wp2
 go_loop [3] (fun i=>i=.int .i64 0) (fun _=>0)
 case atStart=>rfl
 case round =>
  subst hrel
  go_wp2
  go_ret
  exact ⟨rfl,rfl⟩
theorem rutf8_anyM (p:Option Addr)(cap:Nat)(zs:List Int)(w:World)(hT:Tabs w)(hz:Bytes w p zs)(hl:(zs.length:Int)≤9223372036854775807)(hcap:zs.length≤cap) :
  Calls Tryz.prog 115 #[.slice p zs.length cap] w fun e w'=>e=.returned (.int .i64 (u8At zs 0))∧Below w.heap.size w w':=by
 by_cases hne:zs=[]
 · subst hne
   exact (rutf8_none p cap w).mono fun e w' h=>⟨h.1,by rw [←h.2];exact Below.refl _ _⟩
 · obtain ⟨b,off,rfl,hlt,hc⟩:=hz.2 hne
   exact rutf8_some b off cap zs w hT hz.1 (fun _=>hlt) hc hl hcap
theorem rutf8_any (p:Option Addr)(cap:Nat)(zs:List Int)(w:World)(hT:Tabs w)(hz:Bytes w p zs)(hl:(zs.length:Int)≤9223372036854775800)(hcap:zs.length≤cap) :
  Calls Tryz.prog 115 #[.slice p zs.length cap] w fun e w'=>e=.returned (.int .i64 (u8At zs 0))∧Below w.heap.size w w':=rutf8_anyM p cap zs w hT hz (by omega) hcap
theorem rutf8_call (a:Option Addr)(cap n:Nat)(zs:List Int)(w:World)(hT:Tabs w)(hz:Bytes w a zs)(hn:zs.length=n)(hl:(n:Int)≤9223372036854775800)(hcap:n≤cap) :
  Calls Tryz.prog 115 #[.slice a n cap] w fun e w'=>e=.returned (.int .i64 (u8At zs 0))∧Below w.heap.size w w':=by
 subst hn
 exact rutf8_any _ cap zs w hT hz hl hcap
theorem wutf8_off (b off cap n:Nat)(zs:List Int)(w:World)(hT:Tabs w)(hb:∀ i,0≤zs.getD i 0∧zs.getD i 0≤255)(hlt:b<w.heap.size)(hc:∀ i,i<zs.length→w.cell? ⟨b,off+i,none⟩=some (.int .u8 (zs.getD i 0)))(hn:zs.length=n)
  (hl:(n:Int)≤9223372036854775800) (hcap:n≤cap) :
  Calls Tryz.prog 123 #[.slice (some ⟨b,off,none⟩) n cap] w fun e w'=>e=.returned (.int .i64 (u8At zs 0))∧Below w.heap.size w w':=by
 subst hn
 exact wutf8_some b off cap zs w hT hb (fun _=>hlt) hc (by omega) hcap
end Go.Proofs.YtokhnoogkdlidaaGreatDoor
namespace Go.Proofs.YtokhnoogkdlidaaGreatDoor
open Go.ChangeShapes Go.WideShapes Go.ChangeAt Go.RowKit Go.Shelf Go.ChangeMaps
def MapAt (W:World)(b:Nat)(l:List (ByteArray × Value)):Prop:=
 ∃ es clock,W.heap[b]?=some (.map es clock)∧es.toList.map (fun e=>(e.key,e.val))=l.map (fun p=>(Value.string p.1,p.2))
def lookK:List (ByteArray × Value)→ByteArray→Option Value
 | [],_=>none
 | p::r,s=>if s=p.1 then some p.2 else lookK r s
theorem MapAt.lt {W:World}{b:Nat}{l:List (ByteArray × Value)}(h:MapAt W b l):b<W.heap.size:=by
 obtain ⟨es,c,hb,_⟩:=h
 exact blk_lt hb
theorem MapAt.of_block {W W':World}{b:Nat}{l:List (ByteArray × Value)}(h:MapAt W b l)(hb:W'.heap[b]?=W.heap[b]?):MapAt W' b l:=by
 obtain ⟨es,c,h1,h2⟩:=h
 exact ⟨es,c,hb.trans h1,h2⟩
theorem MapAt.below {W W':World}{b B:Nat}{l:List (ByteArray × Value)}(h:MapAt W b l)(hb:Below B W W')(hlt:b<B):MapAt W' b l:=h.of_block (hb.block b hlt)
theorem MapAt.exc {W W':World}{b R B:Nat}{l:List (ByteArray × Value)}(h:MapAt W b l)(hb:Exc R B W W')(hlt:b<B)(hne:b≠R):MapAt W' b l:=h.of_block (hb.block b hlt hne)
theorem MapAt.alloc {W:World}{b:Nat}{l:List (ByteArray × Value)}(h:MapAt W b l)(o:Obj):MapAt (W.alloc o) b l:=h.of_block (Below.heap_alloc W o b h.lt)
theorem MapAt.drew {W:World}{b:Nat}{l:List (ByteArray × Value)}(h:MapAt W b l):MapAt W.drew b l:=h
theorem MapAt.setCell {W:World}{b:Nat}{l:List (ByteArray × Value)}(h:MapAt W b l){p:Addr}(hp:p.block≠b)(u:Value):MapAt (W.setCell p u) b l:=h.of_block (Below.heap_setCell W p u b (fun e=>hp e.symm))
theorem MapAt.made (W:World):MapAt (W.alloc (.map #[] 0)) W.heap.size []:=⟨#[],0,heap_alloc_new W _,rfl⟩
theorem ba_beq (a b:ByteArray):(a==b)=decide (a=b):=by
 obtain ⟨a⟩:=a
 obtain ⟨b⟩:=b
 show (a==b)=_
 rw [Bool.eq_iff_iff,beq_iff_eq,decide_eq_true_iff]
 exact ⟨fun h=>by rw [h],fun h=>by injection h⟩
theorem findNow_str (s:ByteArray):∀ (es:List MapEntry) (l:List (ByteArray × Value)) (i:Nat),es.map (fun e=>(e.key,e.val))=l.map (fun p=>(Value.string p.1,p.2)) →
  (lookK l s=none∧Instr.findNow .string (.string s) es i=some none)∨∃ v j,lookK l s=some v∧Instr.findNow .string (.string s) es i=some (some (j,v))
 | [],l,i,h=>by
  cases l with
  | nil=>exact .inl ⟨rfl,rfl⟩
  | cons p r=>cases h
 | e::es,l,i,h=>by
  cases l with
  | nil=>cases h
  | cons p r =>
   rw [List.map_cons,List.map_cons] at h
   injection h with h1 h2
   injection h1 with hk hv
   obtain ⟨k,v,bo⟩:=e
   simp only at hk hv
   subst hk hv
   by_cases hs:s=p.1
   · refine .inr ⟨p.2,i,by rw [lookK,if_pos hs],?_⟩
     have hb:(s==p.1)=true:=by rw [ba_beq];exact decide_eq_true hs
     simp [Instr.findNow,Instr.sameNow,hb]
   · have hb:(s==p.1)=false:=by rw [ba_beq];exact decide_eq_false hs
     rcases findNow_str s es r (i+1) h2 with ⟨h3,h4⟩|⟨v,j,h3,h4⟩
     · refine .inl ⟨by rw [lookK,if_neg hs];exact h3,?_⟩
       simp [Instr.findNow,Instr.sameNow,hb,h4]
     · refine .inr ⟨v,j,by rw [lookK,if_neg hs];exact h3,?_⟩
       simp [Instr.findNow,Instr.sameNow,hb,h4]
theorem run_findKey_str {P:Program}{k:TypeId}(hk:P.underlying k=some .string)(w:World){s:ByteArray}{es:List MapEntry}{r:Option (Nat × Value)}(h:Instr.findNow .string (.string s) es 0=some r) :
  (Instr.findKey k (.string s) es).run P w=.ok r w:=by
 simp [Instr.findKey,run_underlying hk,Result.andThen,h]
theorem run_check_str {P:Program}{k:TypeId}(hk:P.underlying k=some .string)(w:World)(em:Bool)(s:ByteArray):(Instr.checkKey em 10000 k (.string s)).run P w=.ok () w:=
 MapKept.run_checkKey hk (d:=.string) (k:=.string s) trivial em 9999
theorem MapAt.look {P:Program}{W:World}{b:Nat}{l:List (ByteArray × Value)}(h:MapAt W b l){t k e:TypeId}(hk:P.underlying k=some .string)(ht:P.underlying t=some (.map k e)){z:Value}(hz:(zeroValue e).run P W=.ok z W)(s:ByteArray)(c:Bool) :
  (Instr.lookup t (.map (some b)) (.string s) c).run P W=.ok (if c then .tuple #[(lookK l s).getD z,.bool (lookK l s).isSome] else (lookK l s).getD z) W:=by
 obtain ⟨es,cl,hb,he⟩:=h
 rcases findNow_str s es.toList l 0 he with ⟨h1,h2⟩|⟨v,j,h1,h2⟩
 · simp [Instr.lookup,run_underlying ht,MapKept.run_getObj_map hb,run_check_str hk,run_findKey_str hk W h2,hz,h1,Result.andThen]
 · simp [Instr.lookup,run_underlying ht,MapKept.run_getObj_map hb,run_check_str hk,run_findKey_str hk W h2,h1,Result.andThen]
theorem MapAt.store {P:Program}{W:World}{b:Nat}{l:List (ByteArray × Value)}(h:MapAt W b l){t k e:TypeId}(hk:P.underlying k=some .string)(ht:P.underlying t=some (.map k e))(s:ByteArray)(v:Value)(hn:lookK l s=none) :
  ∃ W',(Instr.mapUpdate t (.map (some b)) (.string s) v).run P W=.ok () W'∧MapAt W' b (l++[(s,v)])∧∀ B,Exc b B W W':=by
 obtain ⟨es,cl,hb,he⟩:=h
 rcases findNow_str s es.toList l 0 he with ⟨h1,h2⟩|⟨v,j,h1,h2⟩
 · refine ⟨setBlock W b (.map (es.push { key:=.string s,val:=v,born:=cl }) (cl+1)),?_,⟨_,_,heap_setBlock_same hb _,?_⟩,fun B=>⟨rfl,rfl,rfl,by simp [setBlock],fun i _ hi=>heap_setBlock_other hb _ hi⟩⟩
   · simp [Instr.mapUpdate,run_underlying ht,MapKept.run_getObj_map hb,run_check_str hk,run_findKey_str hk W h2,MapKept.run_setObj_map _ hb,Result.andThen,setBlock]
   · simp [he]
 · rw [hn] at h1
   cases h1
end Go.Proofs.YtokhnoogkdlidaaGreatDoor
