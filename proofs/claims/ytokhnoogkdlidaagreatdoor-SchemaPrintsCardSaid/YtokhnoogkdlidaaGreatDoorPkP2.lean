/-
  What the frames of this seat's proofs share: the program's own facts, and what a walk is told of a slice of integers that came in. No conditions.
-/
import Derived.Test.YtokhnoogkdlidaaGreatDoorPkP1
import Derived.Laws.EntriesVeiled
import Derived.Shelf.Abstract
import Derived.Test.YtokhnoogkdlidaaGreatDoorRows
import Derived.WalkKit
import Derived.ProofKit
import Derived.OpenShut
import Derived.ShutString
import Derived.ChangeOld
import Derived.Below
import Derived.WalkLawsBesides
import Derived.WalkSpells
import Derived.Lib.Hide
import Derived.Outline
import Derived.Handy
import Derived.Deep.DeepHandedRow
namespace Go.Proofs.YtokhnoogkdlidaaGreatDoor
open Go.ChangeShapes Go.WideShapes Go.ChangeAt Go.RowKit Go.Shelf
structure IsKind (w:World)(g:Nat)(lb:Array Value)(p:Int→Bool):Prop where
 enters:∀ args w,(callFunc g args).run Tryz.prog w=.ok (.enter g args) w
 gives:∀ (W:World) (c:Int),0≤c→c≤255→Below w.heap.size w W→Calls Tryz.prog g (#[.int .u8 c]++lb) W fun e w'=>e=.returned (.bool (p c))∧Below W.heap.size W w'
theorem IsKind.later {w W:World}{g:Nat}{lb:Array Value}{p:Int→Bool}(h:IsKind w g lb p)(hb:Below w.heap.size w W):IsKind W g lb p:=
 ⟨h.enters,fun W' c h0 h1 hb'=>h.gives W' c h0 h1 (hb.trans (hb'.mono hb.size))⟩
theorem IsKind.congr {w:World}{g:Nat}{lb:Array Value}{p q:Int→Bool}(h:IsKind w g lb p)(hpq:∀ c,0≤c→c≤255→p c=q c):IsKind w g lb q:=
 ⟨h.enters,fun W c h0 h1 hb=>by rw [←hpq c h0 h1];exact h.gives W c h0 h1 hb⟩
def KindV (w:World)(v:Value)(p:Int→Bool):Prop:=∃ g lb,v=.func (.func g) #[] lb∧IsKind w g lb p
def betw (a b:Int)(c:Int):Bool:=decide (a≤c∧c≤b)
theorem between1 (W:World)(B C:Nat)(a b c:Int)(hB:W.cell? ⟨B,0,none⟩=some (.int .u8 a))(hC:W.cell? ⟨C,0,none⟩=some (.int .u8 b)) :
  Calls Tryz.prog 137 #[.int .u8 c,.pointer (some ⟨B,0,none⟩),.pointer (some ⟨C,0,none⟩)] W fun e w'=>e=.returned (.bool (betw a b c))∧Below W.heap.size W w':=by
 by_cases h1:a≤c
 · have h1':decide (a≤c)=true:=by simpa using h1
   by_cases h2:c≤b
   · have e:betw a b c=true:=by simp [betw,h1,h2]
     rw [e]
     clear e
     go_enter Tryz.func137,Tryz.ntmps137
     go_wp2
     go_ret
     exact ⟨rfl,Below.refl _ _⟩
   · have e:betw a b c=false:=by simp [betw,h1,h2]
     rw [e]
     clear e
     go_enter Tryz.func137,Tryz.ntmps137
     go_wp2
     go_ret
     exact ⟨rfl,Below.refl _ _⟩
 · have e:betw a b c=false:=by simp [betw,h1]
   rw [e]
   clear e
   go_enter Tryz.func137,Tryz.ntmps137
   go_wp2
   go_ret
   exact ⟨rfl,Below.refl _ _⟩
theorem between_any (a b:Int)(w:World) :
  Calls Tryz.prog 119 #[.int .u8 a,.int .u8 b] w fun e w'=>∃ v,e=.returned v∧Below w.heap.size w w'∧KindV w' v (betw a b):=by
 go_enter Tryz.func119,Tryz.ntmps119
 go_wp2
 go_ret
 refine ⟨_,rfl,((Below.refl _ _).alloc (Nat.le_refl _) _).alloc (by simp) _,_,_,rfl,enters_of Tryz.func137 (by kernel_rfl) rfl,fun W c _ _ hb=>?_⟩
 have h1:∀ i,i<2→W.cell? ⟨w.heap.size+i,0,none⟩=_:=fun i hi=>hb.cell (p:=⟨w.heap.size+i,0,none⟩) (by simp;omega)
 refine between1 W _ _ a b c ((h1 0 (by omega)).trans ?_) ((h1 1 (by omega)).trans ?_)
 · simp [go_sem]
 · simp [go_sem]
theorem either1 (W w1 w2:World)(B C g1 g2:Nat)(l1 l2:Array Value)(p1 p2:Int→Bool)(c:Int)(hc0:0≤c)(hc1:c≤255)(hB:W.cell? ⟨B,0,none⟩=some (.func (.func g1) #[] l1))(hC:W.cell? ⟨C,0,none⟩=some (.func (.func g2) #[] l2))(hCs:C<W.heap.size)
  (h1:IsKind w1 g1 l1 p1) (hb1:Below w1.heap.size w1 W) (h2:IsKind w2 g2 l2 p2) (hb2:Below w2.heap.size w2 W) :
  Calls Tryz.prog 120 #[.int .u8 c,.pointer (some ⟨B,0,none⟩),.pointer (some ⟨C,0,none⟩)] W fun e w'=>e=.returned (.bool (p1 c||p2 c))∧Below W.heap.size W w':=by
 have e1:=h1.enters
 have e2:=h2.enters
 have H1:=Lib.hid (h1.gives W c hc0 hc1 hb1)
 have H2:=Lib.hid (fun W' hb=>h2.gives W' c hc0 hc1 hb)
 have HB:=Lib.hid hb2
 have HC:=Lib.hid hC
 clear h1 h2 hb1 hb2 hC
 cases hp:p1 c
 · rw [hp] at H1
   rw [Bool.false_or]
   clear hp
   go_enter Tryz.func120,Tryz.ntmps120
   go_wp2_with fail
   refine H1.out.mono ?_
   rintro e W1 ⟨rfl,hb⟩
   have hC':W1.cell? ⟨C,0,none⟩=some (.func (.func g2) #[] l2):=(hb.cell (p:=⟨C,0,none⟩) hCs).trans HC.out
   have H:=Lib.hid hb
   clear hb
   go_wp2_with fail
   refine (H2.out _ (HB.out.trans (H.out.mono HB.out.size))).mono ?_
   rintro e W2 ⟨rfl,hb⟩
   clear hC'
   go_wp2
   go_ret
   exact ⟨rfl,H.out.trans (hb.mono H.out.size)⟩
 · rw [hp] at H1
   rw [Bool.true_or]
   clear hp
   go_enter Tryz.func120,Tryz.ntmps120
   go_wp2_with fail
   refine H1.out.mono ?_
   rintro e W1 ⟨rfl,hb⟩
   go_wp2
   go_ret
   exact ⟨rfl,hb⟩
theorem either_any (v1 v2:Value)(p1 p2:Int→Bool)(w:World)(h1:KindV w v1 p1)(h2:KindV w v2 p2) :
  Calls Tryz.prog 95 #[v1,v2] w fun e w'=>∃ v,e=.returned v∧Below w.heap.size w w'∧KindV w' v (fun c=>p1 c||p2 c):=by
 obtain ⟨g1,l1,rfl,h1⟩:=h1
 obtain ⟨g2,l2,rfl,h2⟩:=h2
 go_enter Tryz.func95,Tryz.ntmps95
 go_wp2
 go_ret
 refine ⟨_,rfl,((Below.refl _ _).alloc (Nat.le_refl _) _).alloc (by simp) _,_,_,rfl,enters_of Tryz.func120 (by kernel_rfl) rfl,fun W c h0 h1' hb=>?_⟩
 have hk:∀ i,i<2→W.cell? ⟨w.heap.size+i,0,none⟩=_:=fun i hi=>hb.cell (p:=⟨w.heap.size+i,0,none⟩) (by simp;omega)
 have hs:=hb.size
 simp at hs
 have hbw:Below w.heap.size w W:=(((Below.refl _ _).alloc (Nat.le_refl _) _).alloc (by simp) _).trans (hb.mono (by simp;omega))
 refine either1 W w w _ _ g1 g2 l1 l2 p1 p2 c h0 h1' ((hk 0 (by omega)).trans ?_) ((hk 1 (by omega)).trans ?_) (by omega) h1 hbw h2 hbw
 · simp [go_sem]
 · simp [go_sem]
theorem but1 (W w1:World)(B g1:Nat)(l1:Array Value)(p1:Int→Bool)(c:Int)(hc0:0≤c)(hc1:c≤255)(hB:W.cell? ⟨B,0,none⟩=some (.func (.func g1) #[] l1))
  (h1:IsKind w1 g1 l1 p1) (hb1:Below w1.heap.size w1 W) :
  Calls Tryz.prog 118 #[.int .u8 c,.pointer (some ⟨B,0,none⟩)] W fun e w'=>e=.returned (.bool (!p1 c))∧Below W.heap.size W w':=by
 have e1:=h1.enters
 have H1:=Lib.hid (h1.gives W c hc0 hc1 hb1)
 clear h1 hb1
 generalize p1 c=x at H1 ⊢
 go_enter Tryz.func118,Tryz.ntmps118
 go_wp2_with fail
 refine H1.out.mono ?_
 rintro e W1 ⟨rfl,hb⟩
 go_wp2
 go_ret
 exact ⟨rfl,hb⟩
theorem but_any (v1:Value)(p1:Int→Bool)(w:World)(h1:KindV w v1 p1) :
  Calls Tryz.prog 92 #[v1] w fun e w'=>∃ v,e=.returned v∧Below w.heap.size w w'∧KindV w' v (fun c => !p1 c):=by
 obtain ⟨g1,l1,rfl,h1⟩:=h1
 go_enter Tryz.func92,Tryz.ntmps92
 go_wp2
 go_ret
 refine ⟨_,rfl,(Below.refl _ _).alloc (Nat.le_refl _) _,_,_,rfl,enters_of Tryz.func118 (by kernel_rfl) rfl,fun W c h0 h1' hb=>?_⟩
 have hk:W.cell? ⟨w.heap.size,0,none⟩=_:=hb.cell (p:=⟨w.heap.size,0,none⟩) (by simp)
 have hbw:Below w.heap.size w W:=((Below.refl _ _).alloc (Nat.le_refl _) _).trans (hb.mono (by simp))
 refine but1 W w _ g1 l1 p1 c h0 h1' (hk.trans ?_) h1 hbw
 simp [go_sem]
end Go.Proofs.YtokhnoogkdlidaaGreatDoor
namespace Go.Proofs.YtokhnoogkdlidaaGreatDoor
open Go.ChangeShapes Go.WideShapes Go.ChangeAt Go.RowKit Go.Shelf
def bts (s:ByteArray):List Int:=s.data.toList.map fun b=>(b.toNat:Int)
def amg (s:ByteArray)(c:Int):Bool:=decide (c ∈ bts s)
theorem bts_length (s:ByteArray):(bts s).length=s.size:=by simp [bts]
theorem bts_bd (s:ByteArray):∀ i,0≤(bts s).getD i 0∧(bts s).getD i 0≤255:=by
 intro i
 by_cases hi:i<s.size
 · have hi':i<s.data.toList.length:=by simpa using hi
   have h:(bts s).getD i 0=(s.data.toList[i].toNat:Int):=by
    simp [bts,List.getD,List.getElem?_map,List.getElem?_eq_getElem hi']
   have:=s.data.toList[i].toNat_lt
   rw [h]
   omega
 · have:(bts s).getD i 0=0:=by
    rw [List.getD,List.getElem?_eq_none (by rw [bts_length];omega)]
    rfl
   rw [this]
   omega
theorem indexByte_mem (l:List UInt8)(c:UInt8):(0≤Lib.indexByte l c)=(c ∈ l):=by
 induction l with
 | nil=>simp [Lib.indexByte]
 | cons a r ih =>
  simp only [Lib.indexByte]
  by_cases h:a=c
  · subst h
    simp
  · have hb:(a==c)=false:=by simpa using h
    rw [hb]
    simp only [Bool.false_eq_true,if_false,List.mem_cons,show (c=a)=False from by simp;exact fun e=>h e.symm,false_or]
    rw [←ih]
    by_cases h1:Lib.indexByte r c = -1
    · simp [h1]
    · have hb1:(Lib.indexByte r c == -1)=false:=by simpa using h1
      have:=Lib.indexByte_ge r c
      rw [hb1]
      simp only [Bool.false_eq_true,if_false,eq_iff_iff]
      omega
theorem amg_index (s:ByteArray)(c:Int)(h0:0≤c)(h1:c≤255):decide (0≤Lib.indexByte s.data.toList c.toNat.toUInt8)=amg s c:=by
 unfold amg
 rw [decide_eq_decide,indexByte_mem]
 unfold bts
 rw [List.mem_map]
 constructor
 · intro h
   refine ⟨_,h,?_⟩
   simp
   omega
 · rintro ⟨b,hb,rfl⟩
   simpa using hb
theorem among1 (W:World)(B:Nat)(s:ByteArray)(c:Int)(hc0:0≤c)(hc1:c≤255)(hB:W.cell? ⟨B,0,none⟩=some (.string s)) :
  Calls Tryz.prog 101 #[.int .u8 c,.pointer (some ⟨B,0,none⟩)] W fun e w'=>e=.returned (.bool (amg s c))∧Below W.heap.size W w':=by
 have H:=Lib.hid (Tryz.strings_IndexByte s c)
 have E:=Lib.hid (amg_index s c hc0 hc1)
 generalize amg s c=x at E ⊢
 generalize Lib.indexByte s.data.toList c.toNat.toUInt8=y at E H
 go_enter Tryz.func101,Tryz.ntmps101
 go_wp2_with fail
 refine (H.out _).mono ?_
 rintro e W1 ⟨rfl,rfl⟩
 go_wp2
 go_ret
 exact ⟨ret_bool E.out,Below.refl _ _⟩
theorem among_any (s:ByteArray)(w:World) :
  Calls Tryz.prog 67 #[.string s] w fun e w'=>∃ v,e=.returned v∧Below w.heap.size w w'∧KindV w' v (amg s):=by
 go_enter Tryz.func67,Tryz.ntmps67
 go_wp2
 go_ret
 refine ⟨_,rfl,(Below.refl _ _).alloc (Nat.le_refl _) _,_,_,rfl,enters_of Tryz.func101 (by kernel_rfl) rfl,fun W c h0 h1 hb=>?_⟩
 have hk:W.cell? ⟨w.heap.size,0,none⟩=_:=hb.cell (p:=⟨w.heap.size,0,none⟩) (by simp)
 refine among1 W _ s c h0 h1 (hk.trans ?_)
 simp [go_sem]
theorem KindV.congr {w:World}{v:Value}{p q:Int→Bool}(h:KindV w v p)(hpq:∀ c,0≤c→c≤255→p c=q c):KindV w v q:=by
 obtain ⟨g,lb,rfl,h⟩:=h
 exact ⟨g,lb,rfl,h.congr hpq⟩
theorem KindV.later {w W:World}{v:Value}{p:Int→Bool}(h:KindV w v p)(hb:Below w.heap.size w W):KindV W v p:=by
 obtain ⟨g,lb,rfl,h⟩:=h
 exact ⟨g,lb,rfl,h.later hb⟩
theorem blank_any (w:World):Calls Tryz.prog 90 #[] w fun e w'=>∃ v,e=.returned v∧Below w.heap.size w w'∧KindV w' v isBlank:=by
 have H:=Lib.hid (among_any ⟨#[32,9,10,13]⟩)
 go_enter Tryz.func90,Tryz.ntmps90
 go_wp2_with fail
 refine (H.out _).mono ?_
 rintro e W1 ⟨v,rfl,hb,hk⟩
 have HK:=Lib.hid hk
 have HB:=Lib.hid hb
 clear hk hb
 go_wp2
 go_ret
 exact ⟨_,rfl,HB.out,HK.out.congr fun c _ _=>by simp [amg,bts,isBlank]⟩
theorem minus_any (w:World):Calls Tryz.prog 121 #[] w fun e w'=>∃ v,e=.returned v∧Below w.heap.size w w'∧KindV w' v (isC 45):=by
 have H:=Lib.hid (among_any ⟨#[45]⟩)
 go_enter Tryz.func121,Tryz.ntmps121
 go_wp2_with fail
 refine (H.out _).mono ?_
 rintro e W1 ⟨v,rfl,hb,hk⟩
 have HK:=Lib.hid hk
 have HB:=Lib.hid hb
 clear hk hb
 go_wp2
 go_ret
 exact ⟨_,rfl,HB.out,HK.out.congr fun c _ _=>by simp [amg,bts,isC]⟩
theorem quote_any (w:World):Calls Tryz.prog 99 #[] w fun e w'=>∃ v,e=.returned v∧Below w.heap.size w w'∧KindV w' v (isC 34):=by
 have H:=Lib.hid (among_any ⟨#[34]⟩)
 go_enter Tryz.func99,Tryz.ntmps99
 go_wp2_with fail
 refine (H.out _).mono ?_
 rintro e W1 ⟨v,rfl,hb,hk⟩
 have HK:=Lib.hid hk
 have HB:=Lib.hid hb
 clear hk hb
 go_wp2
 go_ret
 exact ⟨_,rfl,HB.out,HK.out.congr fun c _ _=>by simp [amg,bts,isC]⟩
theorem digit_any (w:World):Calls Tryz.prog 96 #[] w fun e w'=>∃ v,e=.returned v∧Below w.heap.size w w'∧KindV w' v isDig:=by
 have H:=Lib.hid (between_any 48 57)
 go_enter Tryz.func96,Tryz.ntmps96
 go_wp2_with fail
 refine (H.out _).mono ?_
 rintro e W1 ⟨v,rfl,hb,hk⟩
 have HK:=Lib.hid hk
 have HB:=Lib.hid hb
 clear hk hb
 go_wp2
 go_ret
 exact ⟨_,rfl,HB.out,HK.out.congr fun c _ _=>rfl⟩
theorem letter_any (w:World):Calls Tryz.prog 94 #[] w fun e w'=>∃ v,e=.returned v∧Below w.heap.size w w'∧KindV w' v isLet:=by
 go_enter Tryz.func94,Tryz.ntmps94
 go_wp2_with fail
 refine (among_any ⟨#[95]⟩ _).mono ?_
 rintro e W1 ⟨v1,rfl,hb1,hk1⟩
 have HK1:=Lib.hid hk1
 have HB1:=Lib.hid hb1
 clear hk1 hb1
 go_wp2_with fail
 refine (between_any 97 122 _).mono ?_
 rintro e W2 ⟨v2,rfl,hb2,hk2⟩
 have HK2:=Lib.hid hk2
 have HB2:=Lib.hid hb2
 clear hk2 hb2
 go_wp2_with fail
 refine (between_any 65 90 _).mono ?_
 rintro e W3 ⟨v3,rfl,hb3,hk3⟩
 have HK3:=Lib.hid hk3
 have HB3:=Lib.hid hb3
 clear hk3 hb3
 go_wp2_with fail
 refine (either_any v2 v3 _ _ _ (HK2.out.later HB3.out) HK3.out).mono ?_
 rintro e W4 ⟨v4,rfl,hb4,hk4⟩
 have HK4:=Lib.hid hk4
 have HB4:=Lib.hid hb4
 clear hk4 hb4
 go_wp2_with fail
 refine (either_any v1 v4 _ _ _ ((HK1.out.later HB2.out).later (HB3.out.trans (HB4.out.mono HB3.out.size))) HK4.out).mono ?_
 rintro e W5 ⟨v5,rfl,hb5,hk5⟩
 have HK5:=Lib.hid hk5
 have HB5:=Lib.hid hb5
 clear hk5 hb5
 go_wp2
 go_ret
 refine ⟨_,rfl,?_,HK5.out.congr fun c _ _=>?_⟩
 · have h4:=HB4.out.trans (HB5.out.mono HB4.out.size)
   have h3:=HB3.out.trans (h4.mono HB3.out.size)
   have h2:=HB2.out.trans (h3.mono HB2.out.size)
   exact HB1.out.trans (h2.mono HB1.out.size)
 · simp [amg,bts,isLet,betw]
theorem plain_any (w:World):Calls Tryz.prog 122 #[] w fun e w'=>∃ v,e=.returned v∧Below w.heap.size w w'∧KindV w' v isPlain:=by
 go_enter Tryz.func122,Tryz.ntmps122
 go_wp2_with fail
 refine (among_any ⟨#[34,92,127]⟩ _).mono ?_
 rintro e W1 ⟨v1,rfl,hb1,hk1⟩
 have HK1:=Lib.hid hk1
 have HB1:=Lib.hid hb1
 clear hk1 hb1
 go_wp2_with fail
 refine (between_any 0 31 _).mono ?_
 rintro e W2 ⟨v2,rfl,hb2,hk2⟩
 have HK2:=Lib.hid hk2
 have HB2:=Lib.hid hb2
 clear hk2 hb2
 go_wp2_with fail
 refine (either_any v1 v2 _ _ _ (HK1.out.later HB2.out) HK2.out).mono ?_
 rintro e W4 ⟨v4,rfl,hb4,hk4⟩
 have HK4:=Lib.hid hk4
 have HB4:=Lib.hid hb4
 clear hk4 hb4
 go_wp2_with fail
 refine (but_any v4 _ _ HK4.out).mono ?_
 rintro e W5 ⟨v5,rfl,hb5,hk5⟩
 have HK5:=Lib.hid hk5
 have HB5:=Lib.hid hb5
 clear hk5 hb5
 go_wp2
 go_ret
 refine ⟨_,rfl,?_,HK5.out.congr fun c _ _=>?_⟩
 · have h4:=HB4.out.trans (HB5.out.mono HB4.out.size)
   have h2:=HB2.out.trans (h4.mono HB2.out.size)
   exact HB1.out.trans (h2.mono HB1.out.size)
 · unfold isPlain
   rw [Bool.eq_iff_iff]
   simp [amg,bts,betw]
   omega
end Go.Proofs.YtokhnoogkdlidaaGreatDoor
namespace Go.Proofs.YtokhnoogkdlidaaGreatDoor
open Go.RowKit
structure RTy where
 name:List Int
 lists:Nat
 place:Nat
structure RField where
 name:List Int
 place:Nat
 ty:RTy
 dflt:Tok
structure RRec where
 name:List Int
 place:Nat
 fields:List RField
structure RCho where
 name:List Int
 place:Nat
 names:List Tok
structure RRaw where
 structs:List RRec
 enums:List RCho
 roots:List Tok
inductive Res (α:Type) where
 | ok (a:α) (r:List Tok):Res α
 | no (code:Int) (place:Nat):Res α
def Res.bind {α β:Type}(x:Res α)(f:α→List Tok→Res β):Res β:=
 match x with
 | .ok a r=>f a r
 | .no c p=>.no c p
theorem bind_ok {α β:Type}(a:α)(r:List Tok)(f:α→List Tok→Res β):(Res.ok a r).bind f=f a r:=rfl
theorem bind_no {α β:Type}(c:Int)(p:Nat)(f:α→List Tok→Res β):(Res.no c p:Res α).bind f=.no c p:=rfl
def noTok:Tok:=⟨0,[],0⟩
def noTy:RTy:=⟨[],0,0⟩
def noField:RField:=⟨[],0,noTy,noTok⟩
def hd (r:List Tok):Tok:=r.headD noTok
def isT (k:Int)(s:List Int)(r:List Tok):Bool:=decide ((hd r).kind=k)&&decide ((hd r).text=s)
def bad {α:Type}(code:Int)(r:List Tok):Res α:=.no code (hd r).place
def wantR (s:List Int)(r:List Tok):Res Unit:=if isT 4 s r=true then .ok () r.tail else bad 11 r
def sizedR (r:List Tok):Res Tok:=if (hd r).text.length=0∨40<(hd r).text.length then bad 12 r else .ok (hd r) r.tail
def nameR (r:List Tok):Res Tok:=if (hd r).kind=1 then sizedR r else bad 11 r
def labelR (r:List Tok):Res Tok:=if (hd r).kind=1∨(hd r).kind=3 then sizedR r else bad 11 r
def valueR (r:List Tok):Res Tok:=if (hd r).kind=1∨(hd r).kind=2 then .ok (hd r) r.tail else bad 11 r
def wStruct:List Int:=[115,116,114,117,99,116]
def wEnum:List Int:=[101,110,117,109]
def wRoot:List Int:=[114,111,111,116]
def wList:List Int:=[108,105,115,116]
def listsR:Nat→Nat→List Tok→Res Nat
 | f,n,r=>if isT 1 wList r=true then (match f with
  | 0=>bad 16 r
  | f+1=>(wantR [60] r.tail).bind fun _ r'=>listsR f (n+1) r') else .ok n r
def closeR:Nat→List Tok→Res Unit
 | 0,r=>.ok () r
 | n+1,r=>(wantR [62] r).bind fun _ r'=>closeR n r'
def tyR (r:List Tok):Res RTy:=
 (listsR 3 0 r).bind fun n r1=>(nameR r1).bind fun t r2=>(closeR n r2).bind fun _ r3=>.ok ⟨t.text,n,(hd r).place⟩ r3
def dfltR (r:List Tok):Res Tok:=if isT 4 [61] r=true then valueR r.tail else .ok noTok r
def fieldR (r:List Tok):Res RField:=
 (labelR r).bind fun t r1=>(wantR [58] r1).bind fun _ r2=>(tyR r2).bind fun ty r3=>(dfltR r3).bind fun d r4=>(wantR [59] r4).bind fun _ r5=>.ok ⟨t.text,t.place,ty,d⟩ r5
def fieldsR:Nat→List RField→List Tok→Res (List RField)
 | 0,_,r=>bad 11 r
 | f+1,acc,r=>if isT 4 [125] r=true then .ok acc r.tail else (fieldR r).bind fun x r'=>fieldsR f (acc++[x]) r'
def recR (r:List Tok):Res RRec:=
 (nameR r).bind fun t r1=>(wantR [123] r1).bind fun _ r2=>(fieldsR r2.length [] r2).bind fun fs r3=>.ok ⟨t.text,t.place,fs⟩ r3
def commaR (r:List Tok):Res Unit:=if isT 4 [125] r=true then .ok () r else wantR [44] r
def namesR:Nat→List Tok→List Tok→Res (List Tok)
 | 0,_,r=>bad 11 r
 | f+1,acc,r=>if isT 4 [125] r=true then .ok acc r.tail else (nameR r).bind fun t r1=>(commaR r1).bind fun _ r2=>namesR f (acc++[t]) r2
def choR (r:List Tok):Res RCho:=
 (nameR r).bind fun t r1=>(wantR [123] r1).bind fun _ r2=>(namesR r2.length [] r2).bind fun ns r3=>.ok ⟨t.text,t.place,ns⟩ r3
def partR (a:RRaw)(r:List Tok):Res RRaw:=
 if isT 1 wStruct r=true then (recR r.tail).bind fun s r'=>.ok ⟨a.structs++[s],a.enums,a.roots⟩ r'
 else if isT 1 wEnum r=true then (choR r.tail).bind fun s r'=>.ok ⟨a.structs,a.enums++[s],a.roots⟩ r'
 else if isT 1 wRoot r=true then (nameR r.tail).bind fun t r1=>(wantR [59] r1).bind fun _ r'=>.ok ⟨a.structs,a.enums,a.roots++[t]⟩ r'
 else bad 11 r
def noRaw:RRaw:=⟨[],[],[]⟩
def schemaR:Nat→RRaw→List Tok→Res RRaw
 | 0,_,r=>bad 11 r
 | f+1,a,r=>if (hd r).kind=0 then .ok a r else (partR a r).bind fun a' r'=>schemaR f a' r'
def rawR (l:List Tok):Res RRaw:=schemaR l.length noRaw l
def Ends:List Tok→Prop
 | []=>False
 | t::q=>(t.kind=0∧t.text=[]∧q=[])∨(t.kind≠0∧Ends q)
theorem Ends.ne {r:List Tok}(h:Ends r):r≠[]:=by
 rintro rfl
 exact h
theorem Ends.tail {r:List Tok}(h:Ends r)(h0:(hd r).kind≠0):Ends r.tail:=by
 cases r with
 | nil=>exact h.elim
 | cons t q =>
  rcases h with h|h
  · exact absurd h.1 h0
  · exact h.2
theorem Ends.cons {r:List Tok}(h:Ends r):r=hd r::r.tail:=by
 cases r with
 | nil=>exact h.elim
 | cons t q=>rfl
theorem Ends.len {r:List Tok}(h:Ends r):r.length=r.tail.length+1:=by
 conv=>lhs;rw [h.cons]
 rfl
theorem Ends.two {r:List Tok}(h:Ends r)(h0:(hd r).kind≠0):2≤r.length:=by
 have:=(h.tail h0).len
 rw [h.len]
 omega
theorem isT_kind {k:Int}{s:List Int}{r:List Tok}(h:isT k s r=true):(hd r).kind=k∧(hd r).text=s:=by
 unfold isT at h
 rw [Bool.and_eq_true] at h
 exact ⟨of_decide_eq_true h.1,of_decide_eq_true h.2⟩
def Eats {α:Type}(r:List Tok)(x:Res α):Prop:=∀ a r',x=.ok a r'→Ends r'∧r'.length<r.length
def Keeps {α:Type}(r:List Tok)(x:Res α):Prop:=∀ a r',x=.ok a r'→Ends r'∧r'.length≤r.length
theorem Eats.keeps {α:Type}{r:List Tok}{x:Res α}(h:Eats r x):Keeps r x:=fun a r' e=>⟨(h a r' e).1,Nat.le_of_lt (h a r' e).2⟩
theorem eats_no {α:Type}{r:List Tok}{c:Int}{p:Nat}:Eats r (.no c p:Res α):=fun _ _ e=>by cases e
theorem eats_bind {α β:Type}{r:List Tok}{x:Res α}{f:α→List Tok→Res β}(h:Eats r x)(hf:∀ a r',Ends r'→Keeps r' (f a r')):Eats r (x.bind f):=by
 cases x with
 | no c p=>exact eats_no
 | ok a r' =>
  intro b r'' e
  obtain ⟨h1,h2⟩:=h a r' rfl
  obtain ⟨h3,h4⟩:=hf a r' h1 b r'' e
  exact ⟨h3,Nat.lt_of_le_of_lt h4 h2⟩
theorem keeps_bind {α β:Type}{r:List Tok}{x:Res α}{f:α→List Tok→Res β}(h:Keeps r x)(hf:∀ a r',Ends r'→Keeps r' (f a r')):Keeps r (x.bind f):=by
 cases x with
 | no c p=>exact fun _ _ e=>by cases e
 | ok a r' =>
  intro b r'' e
  obtain ⟨h1,h2⟩:=h a r' rfl
  obtain ⟨h3,h4⟩:=hf a r' h1 b r'' e
  exact ⟨h3,Nat.le_trans h4 h2⟩
theorem keeps_ok {α:Type}{r:List Tok}(a:α)(h:Ends r):Keeps r (.ok a r):=fun _ _ e=>by cases e;exact ⟨h,Nat.le_refl _⟩
theorem eats_tail {α:Type}{r:List Tok}(a:α)(h:Ends r)(h0:(hd r).kind≠0):Eats r (.ok a r.tail):=fun _ _ e=>by
 cases e
 refine ⟨h.tail h0,?_⟩
 rw [h.len]
 omega
theorem want_eats {s:List Int}{r:List Tok}(h:Ends r):Eats r (wantR s r):=by
 unfold wantR
 split
 · rename_i hs
   exact eats_tail _ h (by rw [(isT_kind hs).1];decide)
 · exact eats_no
theorem sized_eats {r:List Tok}(h:Ends r)(h0:(hd r).kind≠0):Eats r (sizedR r):=by
 unfold sizedR
 split
 · exact eats_no
 · exact eats_tail _ h h0
theorem name_eats {r:List Tok}(h:Ends r):Eats r (nameR r):=by
 unfold nameR
 split
 · rename_i hs
   exact sized_eats h (by rw [hs];decide)
 · exact eats_no
theorem label_eats {r:List Tok}(h:Ends r):Eats r (labelR r):=by
 unfold labelR
 split
 · rename_i hs
   exact sized_eats h (by omega)
 · exact eats_no
theorem value_eats {r:List Tok}(h:Ends r):Eats r (valueR r):=by
 unfold valueR
 split
 · rename_i hs
   exact eats_tail _ h (by omega)
 · exact eats_no
theorem lists_keeps:∀ (f n:Nat) (r:List Tok),Ends r→Keeps r (listsR f n r)
 | 0,n,r,h=>by
  unfold listsR
  split
  · exact eats_no.keeps
  · exact keeps_ok _ h
 | f+1,n,r,h=>by
  unfold listsR
  split
  · rename_i hs
    have h0:(hd r).kind≠0:=by rw [(isT_kind hs).1];decide
    refine fun a r' e=>?_
    obtain ⟨h1,h2⟩:=(keeps_bind (want_eats (h.tail h0)).keeps (fun _ r' h'=>lists_keeps f (n+1) r' h')) a r' e
    exact ⟨h1,Nat.le_trans h2 (by rw [h.len];omega)⟩
  · exact keeps_ok _ h
theorem close_keeps:∀ (n:Nat) (r:List Tok),Ends r→Keeps r (closeR n r)
 | 0,_,h=>keeps_ok _ h
 | n+1,_,h=>keeps_bind (want_eats h).keeps (fun _ r' h'=>close_keeps n r' h')
theorem ty_keeps {r:List Tok}(h:Ends r):Keeps r (tyR r):=
 keeps_bind (lists_keeps 3 0 r h) fun _ _ h1=>keeps_bind (name_eats h1).keeps fun _ _ h2=>keeps_bind (close_keeps _ _ h2) fun _ _ h3=>keeps_ok _ h3
theorem dflt_keeps {r:List Tok}(h:Ends r):Keeps r (dfltR r):=by
 unfold dfltR
 split
 · rename_i hs
   have h0:(hd r).kind≠0:=by rw [(isT_kind hs).1];decide
   intro a r' e
   obtain ⟨h1,h2⟩:=(value_eats (h.tail h0)).keeps a r' e
   exact ⟨h1,Nat.le_trans h2 (by rw [h.len];omega)⟩
 · exact keeps_ok _ h
theorem field_eats {r:List Tok}(h:Ends r):Eats r (fieldR r):=
 eats_bind (label_eats h) fun _ _ h1=>keeps_bind (want_eats h1).keeps fun _ _ h2=>keeps_bind (ty_keeps h2) fun _ _ h3=>keeps_bind (dflt_keeps h3) fun _ _ h4=>keeps_bind (want_eats h4).keeps fun _ _ h5=>keeps_ok _ h5
theorem comma_keeps {r:List Tok}(h:Ends r):Keeps r (commaR r):=by
 unfold commaR
 split
 · exact keeps_ok _ h
 · exact (want_eats h).keeps
theorem tail_keeps {α:Type}{r:List Tok}(a:α){k:Int}{s:List Int}(h:Ends r)(hs:isT k s r=true)(hk:k≠0):Keeps r (.ok a r.tail):=
 (eats_tail a h (by rw [(isT_kind hs).1];exact hk)).keeps
theorem fields_keeps:∀ (f:Nat) (acc:List RField) (r:List Tok),Ends r→Keeps r (fieldsR f acc r)
 | 0,_,_,_=>eats_no.keeps
 | f+1,acc,r,h=>by
  unfold fieldsR
  split
  · rename_i hs
    exact tail_keeps _ h hs (by decide)
  · exact keeps_bind (field_eats h).keeps fun _ _ h1=>fields_keeps f _ _ h1
theorem names_keeps:∀ (f:Nat) (acc:List Tok) (r:List Tok),Ends r→Keeps r (namesR f acc r)
 | 0,_,_,_=>eats_no.keeps
 | f+1,acc,r,h=>by
  unfold namesR
  split
  · rename_i hs
    exact tail_keeps _ h hs (by decide)
  · exact keeps_bind (name_eats h).keeps fun _ _ h1=>keeps_bind (comma_keeps h1) fun _ _ h2=>names_keeps f _ _ h2
theorem rec_eats {r:List Tok}(h:Ends r):Eats r (recR r):=
 eats_bind (name_eats h) fun _ _ h1=>keeps_bind (want_eats h1).keeps fun _ _ h2=>keeps_bind (fields_keeps _ _ _ h2) fun _ _ h3=>keeps_ok _ h3
theorem cho_eats {r:List Tok}(h:Ends r):Eats r (choR r):=
 eats_bind (name_eats h) fun _ _ h1=>keeps_bind (want_eats h1).keeps fun _ _ h2=>keeps_bind (names_keeps _ _ _ h2) fun _ _ h3=>keeps_ok _ h3
theorem eats_of_tail {α:Type}{r:List Tok}{x:Res α}(h:Ends r)(hx:Keeps r.tail x):Eats r x:=fun a r' e=>by
 obtain ⟨h1,h2⟩:=hx a r' e
 exact ⟨h1,by rw [h.len];omega⟩
theorem part_eats {a:RRaw}{r:List Tok}(h:Ends r):Eats r (partR a r):=by
 have h0:∀ {k s},k≠0→isT k s r=true→Ends r.tail:=fun hk hs=>h.tail (by rw [(isT_kind hs).1];exact hk)
 unfold partR
 split
 · rename_i hs
   exact eats_of_tail h (keeps_bind (rec_eats (h0 (by decide) hs)).keeps fun _ _ h1=>keeps_ok _ h1)
 split
 · rename_i hs
   exact eats_of_tail h (keeps_bind (cho_eats (h0 (by decide) hs)).keeps fun _ _ h1=>keeps_ok _ h1)
 split
 · rename_i hs
   exact eats_of_tail h (keeps_bind (name_eats (h0 (by decide) hs)).keeps fun _ _ h1=>keeps_bind (want_eats h1).keeps fun _ _ h2=>keeps_ok _ h2)
 · exact eats_no
theorem fields_fuel:∀ (f g:Nat) (acc:List RField) (r:List Tok),Ends r→r.length≤f→r.length≤g→fieldsR f acc r=fieldsR g acc r
 | 0,_,_,r,h,hf,_=>by rw [h.len] at hf;omega
 | _,0,_,r,h,_,hg=>by rw [h.len] at hg;omega
 | f+1,g+1,acc,r,h,hf,hg=>by
  simp only [fieldsR]
  split
  · rfl
  · cases hx:fieldR r with
    | no c p=>rfl
    | ok a r' =>
     obtain ⟨h1,h2⟩:=field_eats h a r' hx
     exact fields_fuel f g _ _ h1 (by omega) (by omega)
theorem names_fuel:∀ (f g:Nat) (acc:List Tok) (r:List Tok),Ends r→r.length≤f→r.length≤g→namesR f acc r=namesR g acc r
 | 0,_,_,r,h,hf,_=>by rw [h.len] at hf;omega
 | _,0,_,r,h,_,hg=>by rw [h.len] at hg;omega
 | f+1,g+1,acc,r,h,hf,hg=>by
  simp only [namesR]
  split
  · rfl
  · cases hx:nameR r with
    | no c p=>rfl
    | ok a r' =>
     obtain ⟨h1,h2⟩:=name_eats h a r' hx
     simp only [bind_ok]
     cases hy:commaR r' with
     | no c p=>rfl
     | ok b r'' =>
      obtain ⟨h3,h4⟩:=comma_keeps h1 b r'' hy
      exact names_fuel f g _ _ h3 (by omega) (by omega)
theorem schema_fuel:∀ (f g:Nat) (a:RRaw) (r:List Tok),Ends r→r.length≤f→r.length≤g→schemaR f a r=schemaR g a r
 | 0,_,_,r,h,hf,_=>by rw [h.len] at hf;omega
 | _,0,_,r,h,_,hg=>by rw [h.len] at hg;omega
 | f+1,g+1,a,r,h,hf,hg=>by
  simp only [schemaR]
  split
  · rfl
  · cases hx:partR a r with
    | no c p=>rfl
    | ok b r' =>
     obtain ⟨h1,h2⟩:=part_eats h b r' hx
     exact schema_fuel f g _ _ h1 (by omega) (by omega)
def fieldsL (acc:List RField)(r:List Tok):Res (List RField):=fieldsR r.length acc r
def namesL (acc:List Tok)(r:List Tok):Res (List Tok):=namesR r.length acc r
def schemaL (a:RRaw)(r:List Tok):Res RRaw:=schemaR r.length a r
theorem fieldsL_step {acc:List RField}{r:List Tok}(h:Ends r):fieldsL acc r=if isT 4 [125] r=true then .ok acc r.tail else (fieldR r).bind fun x r'=>fieldsL (acc++[x]) r':=by
 unfold fieldsL
 rw [h.len]
 simp only [fieldsR]
 split
 · rfl
 · cases hx:fieldR r with
   | no c p=>rfl
   | ok a r' =>
    obtain ⟨h1,h2⟩:=field_eats h a r' hx
    exact fields_fuel _ _ _ _ h1 (by rw [h.len] at h2;omega) (Nat.le_refl _)
theorem namesL_step {acc:List Tok}{r:List Tok}(h:Ends r):namesL acc r=if isT 4 [125] r=true then .ok acc r.tail else (nameR r).bind fun t r1=>(commaR r1).bind fun _ r2=>namesL (acc++[t]) r2:=by
 unfold namesL
 rw [h.len]
 simp only [namesR]
 split
 · rfl
 · cases hx:nameR r with
   | no c p=>rfl
   | ok a r' =>
    obtain ⟨h1,h2⟩:=name_eats h a r' hx
    simp only [bind_ok]
    cases hy:commaR r' with
    | no c p=>rfl
    | ok b r'' =>
     obtain ⟨h3,h4⟩:=comma_keeps h1 b r'' hy
     exact names_fuel _ _ _ _ h3 (by rw [h.len] at h2;omega) (Nat.le_refl _)
theorem schemaL_step {a:RRaw}{r:List Tok}(h:Ends r):schemaL a r=if (hd r).kind=0 then .ok a r else (partR a r).bind fun a' r'=>schemaL a' r':=by
 unfold schemaL
 rw [h.len]
 simp only [schemaR]
 split
 · rfl
 · cases hx:partR a r with
   | no c p=>rfl
   | ok b r' =>
    obtain ⟨h1,h2⟩:=part_eats h b r' hx
    exact schema_fuel _ _ _ _ h1 (by rw [h.len] at h2;omega) (Nat.le_refl _)
end Go.Proofs.YtokhnoogkdlidaaGreatDoor
namespace Go.Proofs.YtokhnoogkdlidaaGreatDoor
open Go.ChangeShapes Go.WideShapes Go.ChangeAt Go.RowKit
theorem own:ownKnob Tryz.prog.godebug=none:=by kernel_rfl
theorem laidOut:laidOutB Tryz.prog=true:=by kernel_rfl
def IsRow (k:IntKind)(w:World)(a:Option Addr)(len cap:Nat)(zs:List Int):Prop:=
 len≤cap∧cap≤maxLen∧zs.length=cap∧(∀ n ∈ zs,(Lit.int k n).wf=true) ∧
 (zs≠[]→∃ b off,a=some ⟨b,off,none⟩∧b<w.heap.size∧∀ j,j<zs.length→w.cell? ⟨b,off+j,none⟩=some (.int k (zs.getD j 0)))
theorem isRow_nil (k:IntKind)(w:World)(a:Option Addr):IsRow k w a 0 0 []:=
 ⟨Nat.le_refl _,Nat.zero_le _,rfl,(fun n h=>by simp at h),(fun h=>absurd rfl h)⟩
theorem isRow_of {k:IntKind}{w:World}{x:Addr}{len cap:Nat}{zs:List Int}(hl:len≤cap)(hm:cap≤maxLen)(hz:zs.length=cap)
  (hc:∀ i,i<zs.length→w.cell? (x.add i)=some (.int k (zs.getD i 0))) (hw:∀ n ∈ zs,(Lit.int k n).wf=true):IsRow k w (some x) len cap zs:=by
 refine ⟨hl,hm,hz,hw,fun hne=>?_⟩
 have h0:0<zs.length:=List.length_pos_iff.2 hne
 obtain ⟨b,off,rfl,hc'⟩:=ints_at hc h0
 exact ⟨b,off,rfl,World.block_lt_of_cell? _ _ (hc' 0 h0),hc'⟩
end Go.Proofs.YtokhnoogkdlidaaGreatDoor
