/-
  Package flatread: what its walk is told of; how its questions hang together. Conditions: those that each theorem names.
-/
import Derived.Test.YtpbaaiilfkacnaaDoorPkQ21
namespace Go.Proofs.YtpbaaiilfkacnaaDoor
open Go.ChangeShapes Go.WideShapes Go.ChangeAt Go.RowKit Go.Shelf
set_option maxRecDepth 100000
set_option maxHeartbeats 16000000
theorem aAf (w:World){base m:Nat}{bp:Option Addr}{bc:Nat}{sv ev:Value}{zs:List Int}{ss:List (bK × Value)}{es:List aX}{fs:List (List dT × Value)}{ns:List Nat}(h:MsgOf base w m bp bc sv ev zs ss es fs ns){wk mt B:Nat}{left ml:Int}(hw:WState w wk m mt false left ml false)(hl0:0≤left∧left≤1000000)(hml:0≤ml∧ml≤9223372036854775807)
  (hB:B≤w.heap.size∧B≤wk∧B≤mt) (hA:Amb B w) (k r d:Nat) (at':Int) :
  Calls Tryd.prog 135 #[.pointer (some ⟨wk,0,none⟩),dD k r 0 at' d true] w (gG (cM zs at' fun to=>dH zs k to left) wk m mt left ml w):=by
 have hb:=(bH w.heap.size w).alloc bD (.cells #[.int .u8 k,.int .i64 r,.int .i64 0,.int .i64 at',.int .u64 d,.bool true] 182);have HB:=aA hb;have hA0:=aA hA;have HM:=aA (h.below hb);have HW:=aA (hw.below hb);have HX:=aA (cN w (.cells #[.int .u8 k,.int .i64 r,.int .i64 0,.int .i64 at',.int .u64 d,.bool true] 182));have HAM:Hid (Amb B (w.alloc (.cells #[.int .u8 k,.int .i64 r,.int .i64 0,.int .i64 at',.int .u64 d,.bool true] 182))):=aA (hA.below (hb.mono hB.1));have hzb:=h.msg.bytes.1;have hlen:=h.msg.len
 have HTG:=aA (fun W (hW:Below (w.alloc (.cells #[.int .u8 k,.int .i64 r,.int .i64 0,.int .i64 at',.int .u64 d,.bool true] 182)).heap.size (w.alloc (.cells #[.int .u8 k,.int .i64 r,.int .i64 0,.int .i64 at',.int .u64 d,.bool true] 182)) W)=>gB W ((h.below hb).below hW).msg k r 0 at' d true);have HWK:Hid (wk<w.heap.size∧mt<w.heap.size):=aA ⟨aD hw.walk,aD hw.meter⟩;obtain ⟨P,hP⟩:∃ P,gG (cM zs at' fun to=>dH zs k to left) wk m mt left ml w=P:=⟨_,rfl⟩;rw [hP];have HP:=aA hP.symm;clear hP hb h hw hA;unfold dD at *;simp only [if_true] at HTG;obtain ⟨jz,hjz⟩:∃ jz,fM zs at'=jz:=⟨_,rfl⟩;unfold cM at HP;rw [hjz] at HP HTG;have hbd:∀ to,jz=some to→0≤to∧to≤16384:=fun to e=>by rw [e] at hjz;have h1:=gV hzb hjz;unfold aH at h1;omega
 clear hjz;go_enter Tryd.func135,Tryd.ntmps135;go_upto_region 1 with (fail);generalize w.alloc (.cells #[.int .u8 k,.int .i64 r,.int .i64 0,.int .i64 at',.int .u64 d,.bool true] 182)=W0 at *;obtain ⟨_,s1,s2,s3,s4,s5,s6⟩:=bB HX.out;obtain ⟨_,s0,_,_,_⟩:=kH HW.out.walk;cases jz with
 | none =>
  have HEND:Hid (∀ W,Below w.heap.size w W→WState W wk m mt false left ml false→P (.returned (.bool false)) W):=aA (fun W hB hs=>by rw [HP.out];exact bQ hs (Exw.of_below hB) rfl);unfold sQ at HTG;refine gL ?_;refine qM s0 s1 s2 s3 s4 s5 s6 ?_;intro hS;refine aK 0 (.pointer (some ⟨wk,0,none⟩)) ?_;simp only [td];refine aK 1 (.pointer (some ⟨wk,0,none⟩)) ?_;simp only [td];refine aK 2 (.pointer (some ⟨wk,0,none⟩)) ?_;simp only [td];refine aK 3 (.pointer (some ⟨m,0,none⟩)) ?_;simp only [td];refine aK 4 (.agg #[.int .u8 k,.int .i64 r,.int .i64 0,.int .i64 at',.int .u64 d,.bool true]) ?_;simp only [td];refine bS 5 fun K hK=>?_;go_simp;refine (HTG.out W0.drew ((bH _ W0).drew)).mono ?_;rintro e Wh1 ⟨rfl,hb1⟩;have hx1:Below W0.heap.size W0 Wh1:=(bH _ W0).drew.trans hb1;refine hK.out _ _ (fZ hx1 ⟨s0,s1,s2,s3,s4,s5,s6⟩) (fun hS=>?_);refine aK 6 (.tuple #[.int .i64 0,.bool false]) ?_;simp only [td]
  refine aK 7 (.int .i64 0) ?_;simp only [td];refine aK 8 (.bool false) ?_;simp only [td];refine aK 9 (.int .i64 0) ?_;simp only [td];refine aK 10 (.bool false) ?_;simp only [td];refine gA (by kernel_rfl) ?_ _;refine fI ?_;try simp only [Exit.then]
  have HBE:=aA (HB.out.trans (hx1.mono HB.out.size));have HWE:=aA (HW.out.below hx1);clear hS s0 s1 s2 s3 s4 s5 s6 hx1 hb1;go_wp2;exact HEND.out _ HBE.out HWE.out
 | some to =>
  have hto:=hbd to rfl;unfold sQ at HTG;refine gL ?_;refine qM s0 s1 s2 s3 s4 s5 s6 ?_;intro hS;refine aK 0 (.pointer (some ⟨wk,0,none⟩)) ?_;simp only [td];refine aK 1 (.pointer (some ⟨wk,0,none⟩)) ?_;simp only [td];refine aK 2 (.pointer (some ⟨wk,0,none⟩)) ?_;simp only [td];refine aK 3 (.pointer (some ⟨m,0,none⟩)) ?_;simp only [td];refine aK 4 (.agg #[.int .u8 k,.int .i64 r,.int .i64 0,.int .i64 at',.int .u64 d,.bool true]) ?_;simp only [td];refine bS 5 fun K hK=>?_;go_simp;refine (HTG.out W0.drew ((bH _ W0).drew)).mono ?_;rintro e Wh1 ⟨rfl,hb1⟩;have hx1:Below W0.heap.size W0 Wh1:=(bH _ W0).drew.trans hb1;refine hK.out _ _ (fZ hx1 ⟨s0,s1,s2,s3,s4,s5,s6⟩) (fun hS=>?_);refine aK 6 (.tuple #[.int .i64 to,.bool true]) ?_;simp only [td];refine aK 7 (.int .i64 to) ?_;simp only [td];refine aK 8 (.bool true) ?_;simp only [td];refine aK 9 (.int .i64 to) ?_;simp only [td]
  refine aK 10 (.bool true) ?_;simp only [td];refine gA (by kernel_rfl) ?_ _;refine fI ?_;try simp only [Exit.then]
  have HB1:=aA (HB.out.trans (hx1.mono HB.out.size));have HW1:=aA (HW.out.below hx1);have HM1:=aA (HM.out.below hx1);have hx1K:=aA hx1;have HB00:Hid (B≤W0.heap.size):=aA (eM hB.1 HB.out.size);have HX1:=aA (aE HX.out hx1 (aD HX.out));clear hS s0 s1 s2 s3 s4 s5 s6 hx1 hb1 HTG;have HAM1:=aA (fun (W:World) (hW:Below Wh1.heap.size Wh1 W)=>HAM.out W ((hx1K.out.trans (hW.mono hx1K.out.size)).mono HB00.out));have HFB:=aA (fun W (hW:Below Wh1.heap.size Wh1 W)=>sW W (HM1.out.below hW).msg k r 0 to);obtain ⟨_,s1,s2,s3,s4,s5,s6⟩:=bB HX1.out;obtain ⟨_,s0,_,_,_⟩:=kH HW1.out.walk;have hno:=fun (hh:eF zs k to=false)=>sN (left:=left) hzb hh;have hok:=fun (hh:eF zs k to=true)=>sY (left:=left) hzb hh;have hld:=dW zs to.toNat hzb;have hlz:eF zs k to=true→aY zs to.toNat 4≤16384:=fun hh=>by unfold eF at hh;rw [Bool.and_eq_true,Bool.and_eq_true] at hh;have h2:=aW.1 hh.2.1;unfold aH at h2;omega
  go_upto_region 4 with (fail);refine gL ?_;refine qM s0 s1 s2 s3 s4 s5 s6 ?_;intro hS;refine aK 0 (.pointer (some ⟨wk,0,none⟩)) ?_;simp only [td];refine aK 1 (.pointer (some ⟨wk,0,none⟩)) ?_;simp only [td];refine aK 2 (.pointer (some ⟨wk,0,none⟩)) ?_;simp only [td];refine aK 3 (.pointer (some ⟨m,0,none⟩)) ?_;simp only [td];refine aK 4 (.int .i64 to) ?_;simp only [td];refine aK 5 (.pointer (some ⟨w.heap.size,0,none⟩)) ?_;simp only [td];refine aK 6 (.agg #[.int .u8 k,.int .i64 r,.int .i64 0]) ?_;simp only [td];refine bS 7 fun K hK=>?_;go_simp;refine (HFB.out Wh1.drew ((bH _ Wh1).drew)).mono ?_;rintro e Wh2 ⟨hfp,hb2⟩;rcases hfp with ⟨hbok,gg,oo,rfl,hby⟩|⟨hbok,rfl⟩
  case inr =>
   have hN:=hno hbok;clear hno hok hlz;have hx2:Below Wh1.heap.size Wh1 Wh2:=(bH _ Wh1).drew.trans hb2;refine hK.out _ _ (fZ hx2 ⟨s0,s1,s2,s3,s4,s5,s6⟩) (fun hS=>?_);refine aK 8 (.tuple #[.slice none 0 0,.bool false]) ?_;simp only [td];refine aK 9 (.slice none 0 0) ?_;simp only [td];refine aK 10 (.bool false) ?_;simp only [td];refine aK 11 (.slice none 0 0) ?_;simp only [td];refine aK 12 (.bool false) ?_;simp only [td];refine gA (by kernel_rfl) ?_ _;refine fI ?_;try simp only [Exit.then]
   have HB2:=aA (HB1.out.trans (hx2.mono HB1.out.size));have HW2:=aA (HW1.out.below hx2);have HM2:=aA (HM1.out.below hx2);have HX2:=aA (aE HX1.out hx2 (aD HX1.out));have HAM2:=aA (fun (W:World) (hW:Below Wh2.heap.size Wh2 W)=>HAM1.out W (hx2.trans (hW.mono hx2.size)));have HS2:Hid (Wh1.heap.size≤Wh2.heap.size):=aA hx2.size;clear hS s0 s1 s2 s3 s4 s5 s6 hx2 hb2 HFB;obtain ⟨_,s1,s2,s3,s4,s5,s6⟩:=bB HX2.out;have HEND:Hid (∀ W,Below w.heap.size w W→WState W wk m mt false left ml false→P (.returned (.bool false)) W):=aA (fun W hB hs=>by rw [HP.out];exact bQ hs (Exw.of_below hB) hN);by_cases hk:k=11
   · subst hk;go_wp2;exact HEND.out _ HB2.out HW2.out
   · have t11:((k:Int)==11)=false:=by simp;omega
     go_wp2;exact HEND.out _ HB2.out HW2.out
  case inl =>
   have hN:=hok hbok;have hnz:=hlz hbok;obtain ⟨n,hn⟩:∃ n:Nat,aY zs to.toNat 4=(n:Int):=Int.eq_ofNat_of_zero_le hld.1;have hpl0:to.toNat+4+(aY zs to.toNat 4).toNat≤zs.length:=by have hbk:=hbok;unfold eF at hbk;rw [Bool.and_eq_true,Bool.and_eq_true] at hbk;have h2:=aW.1 hbk.2.1;unfold aH at h2;omega
   rw [hn,lN] at hpl0;rw [hn] at hN hnz hby;rw [hn,lN] at *;clear hno hok hlz hld hn;have hx2:Below Wh1.heap.size Wh1 Wh2:=(bH _ Wh1).drew.trans hb2;refine hK.out _ _ (fZ hx2 ⟨s0,s1,s2,s3,s4,s5,s6⟩) (fun hS=>?_);refine aK 8 (.tuple #[.slice (some ⟨gg,oo,none⟩) n n,.bool true]) ?_;simp only [td];refine aK 9 (.slice (some ⟨gg,oo,none⟩) n n) ?_;simp only [td];refine aK 10 (.bool true) ?_;simp only [td];refine aK 11 (.slice (some ⟨gg,oo,none⟩) n n) ?_;simp only [td];refine aK 12 (.bool true) ?_;simp only [td];refine gA (by kernel_rfl) ?_ _;refine fI ?_;try simp only [Exit.then]
   have HB2:=aA (HB1.out.trans (hx2.mono HB1.out.size));have HW2:=aA (HW1.out.below hx2);have HM2:=aA (HM1.out.below hx2);have HX2:=aA (aE HX1.out hx2 (aD HX1.out));have HAM2:=aA (fun (W:World) (hW:Below Wh2.heap.size Wh2 W)=>HAM1.out W (hx2.trans (hW.mono hx2.size)));have HS2:Hid (Wh1.heap.size≤Wh2.heap.size):=aA hx2.size;clear hS s0 s1 s2 s3 s4 s5 s6 hx2 hb2 HFB;obtain ⟨_,s1,s2,s3,s4,s5,s6⟩:=bB HX2.out;have HBY2:=aA hby;clear hby;have hcw:=cU (4+(n:Int));have hcw1:=cU (1+(n:Int));have hpl:(dF zs (to.toNat+4) n).length=n:=iL hpl0;have HSM:=aA (HAM2.out);by_cases hk:k=11
   · subst hk;rw [bG rfl] at hN;have hcw2:=cU (4+(n:Int)+1);have HRE:=aA (iT Wh2 HW2.out (4+(n:Int)+1) (by omega));obtain ⟨l2,hl2⟩:∃ l2,left-(4+(n:Int)+1)=l2:=⟨_,rfl⟩;rw [hl2] at hN HRE;go_wp2_with fail;refine HRE.out.mono ?_;rintro e W3 ⟨rfl,hw3,hx3⟩;have HX3:=aA ((Exw.of_below (R:=wk) (S:=mt) HB2.out).trans (hx3.mono HB2.out.size));have HW3:=aA hw3;have HK3:=aA (aL HX2.out hx3 (aD HX2.out) (by have:=HWK.out;omega) (by have:=HWK.out;omega));have HBY3:Hid (Bytes W3 (some ⟨gg,oo,none⟩) (dF zs (to.toNat+4) n)):=aA (oH HBY2.out hx3 (fun b off e hne=>by injection e with e;injection e with e1 e2 _;subst e1 e2;exact HW2.out.bytes HBY2.out hne));clear hw3 hx3 s1 s2 s3 s4 s5 s6;obtain ⟨_,s1,s2,s3,s4,s5,s6⟩:=bB HK3.out;by_cases hl3:0≤l2
     case neg =>
      rw [iB hl3];have HEND:Hid (P (.returned (.bool false)) W3):=aA (by rw [HP.out];exact bQ HW3.out HX3.out (by show dH zs _ to left=none;rw [hN,if_neg (fun h=>hl3 h.1)]));go_wp2;exact HEND.out
     rw [fO hl3];by_cases hpay:(n:Int)+1≤ml
     case neg =>
      have HPY:=aA (nY W3 HW3.out (1+(n:Int)) (by omega) (by omega));go_wp2_with fail;refine HPY.out.mono ?_;rintro e W4 ⟨rfl,hw4,hx4⟩;have HEND:Hid (P (.returned (.bool false)) W4):=aA (by rw [HP.out];exact eZ hw4 (HX3.out.trans (hx4.mono HX3.out.size)) (by omega));clear hw4 hx4 s1 s2 s3 s4 s5 s6;go_wp2;exact HEND.out
     have HPY:=aA (lT W3 HW3.out (1+(n:Int)) (by omega) (by omega) (by omega));go_wp2_with fail;refine HPY.out.mono ?_;rintro e W4 ⟨rfl,hw4,hx4⟩;have HX4:=aA (HX3.out.trans (hx4.mono HX3.out.size));have HW4:=aA hw4;have HK4:=aA (aL HK3.out hx4 (aD HK3.out) (by have:=HWK.out;omega) (by have:=HWK.out;omega));have HBY4:Hid (Bytes W4 (some ⟨gg,oo,none⟩) (dF zs (to.toNat+4) n)):=aA (oH HBY3.out hx4 (fun b off e hne=>by injection e with e;injection e with e1 e2 _;subst e1 e2;exact HW3.out.bytes HBY3.out hne));have HT4:Hid (Tabs W4):=aA (hA0.out W4 ((HX4.out.mono hB.1).below hB.2.1 hB.2.2));have HU:=aA (aB7 (some ⟨gg,oo,none⟩) n n (dF zs (to.toNat+4) n) W4 HT4.out HBY4.out hpl (by omega) bD);obtain ⟨u,hu⟩:∃ u,fU (dF zs (to.toNat+4) n) 0=u:=⟨_,rfl⟩;rw [hu] at hN HU;clear hw4 hx4 s1 s2 s3 s4 s5 s6 hu;go_wp2_with fail;refine HU.out.mono ?_;rintro e W5 ⟨rfl,hb5⟩
     have HX5:=aA (HX4.out.trans ((Exw.of_below (R:=wk) (S:=mt) hb5).mono HX4.out.size));have HW5:=aA (HW4.out.below hb5);clear hb5;by_cases hu0:u<0
     · have HEND:Hid (P (.returned (.bool true)) W5):=aA (by rw [HP.out];exact iU HW5.out HX5.out (by show dH zs _ to left=_;rw [hN,bG ⟨hl3,fun _=>hu0⟩]) hl3 (by omega) (by omega) (by omega) (fun _=>by omega));have tu:decide (0≤u)=false:=iB (by omega);go_wp2;exact HEND.out
     · have HEND:Hid (P (.returned (.bool false)) W5):=aA (by rw [HP.out];exact bQ HW5.out HX5.out (by show dH zs _ to left=none;rw [hN,if_neg (fun h=>hu0 (h.2 (by simp)))]));have tu:decide (0≤u)=true:=fO (by omega);go_wp2;exact HEND.out
   · have t11:((k:Int)==11)=false:=by simp;omega
     rw [if_neg hk,Int.add_zero] at hN;have HRE:=aA (iT Wh2 HW2.out (4+(n:Int)) (by omega));obtain ⟨l2,hl2⟩:∃ l2,left-(4+(n:Int))=l2:=⟨_,rfl⟩;rw [hl2] at hN HRE;go_wp2_with fail;refine HRE.out.mono ?_;rintro e W3 ⟨rfl,hw3,hx3⟩;have HX3:=aA ((Exw.of_below (R:=wk) (S:=mt) HB2.out).trans (hx3.mono HB2.out.size));have HW3:=aA hw3;have HK3:=aA (aL HX2.out hx3 (aD HX2.out) (by have:=HWK.out;omega) (by have:=HWK.out;omega));clear hw3 hx3 s1 s2 s3 s4 s5 s6;obtain ⟨_,s1,s2,s3,s4,s5,s6⟩:=bB HK3.out;by_cases hl3:0≤l2
     case neg =>
      rw [iB hl3];have HEND:Hid (P (.returned (.bool false)) W3):=aA (by rw [HP.out];exact bQ HW3.out HX3.out (by show dH zs _ to left=none;rw [hN,if_neg (fun h=>hl3 h.1)]));go_wp2;exact HEND.out
     rw [fO hl3];by_cases hpay:(n:Int)+1≤ml
     case neg =>
      have HPY:=aA (nY W3 HW3.out (1+(n:Int)) (by omega) (by omega));go_wp2_with fail;refine HPY.out.mono ?_;rintro e W4 ⟨rfl,hw4,hx4⟩;have HEND:Hid (P (.returned (.bool false)) W4):=aA (by rw [HP.out];exact eZ hw4 (HX3.out.trans (hx4.mono HX3.out.size)) (by omega));clear hw4 hx4 s1 s2 s3 s4 s5 s6;go_wp2;exact HEND.out
     have HPY:=aA (lT W3 HW3.out (1+(n:Int)) (by omega) (by omega) (by omega));go_wp2_with fail;refine HPY.out.mono ?_;rintro e W4 ⟨rfl,hw4,hx4⟩;have HX4:=aA (HX3.out.trans (hx4.mono HX3.out.size));have HW4:=aA hw4;have HEND:Hid (P (.returned (.bool true)) W4):=aA (by rw [HP.out];exact iU HW4.out HX4.out (by show dH zs _ to left=_;rw [hN,bG ⟨hl3,fun h=>absurd h hk⟩]) hl3 (by omega) (by omega) (by omega) (fun _=>by omega));clear hw4 hx4 s1 s2 s3 s4 s5 s6;go_wp2;exact HEND.out
structure RCtx (base:Nat)(W:World)(m:Nat)(bp:Option Addr)(bc:Nat)(sv ev:Value)(zs:List Int)(ss:List (bK × Value))(es:List aX)(fs:List (List dT × Value))(ns:List Nat)(wk mt B:Nat)(left ml:Int):Prop where
 msg:MsgOf base W m bp bc sv ev zs ss es fs ns
 st:WState W wk m mt false left ml false
 hl:0≤left∧left≤1000000
 hml:0≤ml∧ml≤9223372036854775807
 hB:B≤W.heap.size∧B≤wk∧B≤mt
 amb:Amb B W
 sch:jP ss es
variable {base:Nat} {W W':World} {m:Nat} {bp:Option Addr} {bc:Nat} {sv ev:Value} {zs:List Int} {ss:List (bK × Value)} {es:List aX} {fs:List (List dT × Value)} {ns:List Nat} {wk mt B:Nat} {left ml l' ml':Int}
theorem RCtx.below (h:RCtx base W m bp bc sv ev zs ss es fs ns wk mt B left ml)(hb:Below W.heap.size W W'):RCtx base W' m bp bc sv ev zs ss es fs ns wk mt B left ml:=
 ⟨h.msg.below hb,h.st.below hb,h.hl,h.hml,⟨eM h.hB.1 hb.size,h.hB.2⟩,h.amb.below (hb.mono h.hB.1),h.sch⟩
theorem RCtx.exw (h:RCtx base W m bp bc sv ev zs ss es fs ns wk mt B left ml)(hx:Exw wk mt W.heap.size W W')(hs:WState W' wk m mt false l' ml' false)(h1:0≤l'∧l'≤left)(h2:0≤ml'∧ml'≤ml):RCtx base W' m bp bc sv ev zs ss es fs ns wk mt B l' ml':=
 ⟨h.msg.exw h.st hx,hs,⟨h1.1,Int.le_trans h1.2 h.hl.2⟩,⟨h2.1,Int.le_trans h2.2 h.hml.2⟩,⟨eM h.hB.1 hx.size,h.hB.2⟩,h.amb.exw h.hB.1 h.hB.2.1 h.hB.2.2 hx,h.sch⟩
def aG (ss:List (bK × Value)):List cO:=(fF ss).map Prod.fst
def iM (ss:List cO)(zs:List Int)(nx:Option jL)(ref to:Int)(t:mO)(left:Int):Option (PV × Int):=
 match nx with
 | none=>none
 | some f =>
  if left-(t.size+t.own)<0 then none else
  match eB (jO zs f (kJ ss ref).fields to t) (left-(t.size+t.own)) (kJ ss ref).fields.length with
  | none=>none
  | some (ks,l)=>some (.mk 0 [] ks true,l)
theorem lG {ss:List cO}{zs:List Int}{nx:Option jL}{ref to left:Int}(h:gX zs to=none):cC ss zs nx ref to left=none:=by unfold cC;rw [h]
theorem fG {ss:List cO}{zs:List Int}{nx:Option jL}{ref to left:Int}{t:mO}(h:gX zs to=some t):cC ss zs nx ref to left=iM ss zs nx ref to t left:=by unfold cC;rw [h];rfl
structure tZ (room:Nat):Prop where
 run:∀ {base:Nat} {W:World} {m:Nat} {bp:Option Addr} {bc:Nat} {sv ev:Value} {zs:List Int} {ss:List (bK × Value)} {es:List aX} {fs:List (List dT × Value)} {ns:List Nat} {wk mt B:Nat} {left ml:Int},RCtx base W m bp bc sv ev zs ss es fs ns wk mt B left ml →
  ∀ (k r l d:Nat) (at':Int),oN ss.length es k r l→(aT k l=1→cV (aH zs) at' (aP k)=true) →
  Calls Tryd.prog 115 #[.pointer (some ⟨wk,0,none⟩),dD k r l at' d true,.int .i64 room] W (gG (bV (aG ss) es zs room k r l at' left) wk m mt left ml W)
structure oA (room:Nat):Prop where
 run:∀ {base:Nat} {W:World} {m:Nat} {bp:Option Addr} {bc:Nat} {sv ev:Value} {zs:List Int} {ss:List (bK × Value)} {es:List aX} {fs:List (List dT × Value)} {ns:List Nat} {wk mt B:Nat} {left ml:Int},RCtx base W m bp bc sv ev zs ss es fs ns wk mt B left ml →
  ∀ (r:Nat) (t:mO) (p:Int),r<ss.length→gX zs p=some t→0≤p∧p≤1000000 →
  Calls Tryd.prog 85 #[.pointer (some ⟨wk,0,none⟩),jT m r t p,.int .i64 room] W (gG (iM (aG ss) zs (bL (aG ss) es zs room) r p t left) wk m mt left ml W)
structure xF (room:Nat):Prop where
 run:∀ {base:Nat} {W:World} {m:Nat} {bp:Option Addr} {bc:Nat} {sv ev:Value} {zs:List Int} {ss:List (bK × Value)} {es:List aX} {fs:List (List dT × Value)} {ns:List Nat} {wk mt B:Nat} {left ml:Int},RCtx base W m bp bc sv ev zs ss es fs ns wk mt B left ml →
  ∀ (k r l d:Nat) (at':Int),oN ss.length es k r l→0<l →
  Calls Tryd.prog 136 #[.pointer (some ⟨wk,0,none⟩),dD k r l at' d true,.int .i64 room] W (gG (cM zs at' fun to=>bM zs (bL (aG ss) es zs room) k r ((l:Int)-1) to left) wk m mt left ml W)
theorem vI {zs:List Int}{p:Int}{t:mO}(hz:∀ i,0≤zs.getD i 0∧zs.getD i 0≤255)(h:gX zs p=some t):(cV (aH zs) t.la t.size=true∧t.size % 2=0)∧4≤t.size∧t.size<65536∧4≤t.own∧t.own<65536∧cV (aH zs) p t.own=true:=by
 unfold gX zR at h;split at h
 · split at h
   · split at h
     · rename_i h3
       injection h with h;subst h;exact ⟨⟨h3.2.1,h3.1.2.1⟩,h3.1.1,(mU zs _ hz).2,h3.1.2.2,(mU zs _ hz).2,h3.2.2⟩
     · cases h
   · cases h
 · cases h
theorem jG {n:Nat}{es:List aX}{k r l:Nat}(h:oN n es k r l):(0<l∧aT k l=3)∨(l=0∧0<aP k∧k≤10∧aT k l=1)∨(l=0∧(k=11∨k=12)∧aT k l=2)∨(l=0∧k=13∧aT k l=4):=by
 rcases Nat.eq_zero_or_pos l with h0|h0
 · subst h0;have h1:=h.lo;have h2:=h.hi;rcases Nat.lt_or_ge 10 k with h3|h3
   · have h4:k=11∨k=12∨k=13:=by omega
     rcases h4 with rfl|rfl|rfl
     · exact .inr (.inr (.inl ⟨rfl,.inl rfl,rfl⟩))
     · exact .inr (.inr (.inl ⟨rfl,.inr rfl,rfl⟩))
     · exact .inr (.inr (.inr ⟨rfl,rfl,rfl⟩))
   · have h5:=vY h1 h3;refine .inr (.inl ⟨rfl,h5,h3,?_⟩);unfold aT;rw [if_neg (by decide),if_neg (by decide),bG h5]
 · refine .inl ⟨h0,?_⟩;unfold aT;rw [bG (by omega)]
end Go.Proofs.YtpbaaiilfkacnaaDoor
