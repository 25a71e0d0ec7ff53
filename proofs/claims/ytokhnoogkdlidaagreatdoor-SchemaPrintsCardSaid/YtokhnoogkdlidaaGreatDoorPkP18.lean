/-
  The package lex's quoted: the place behind a quoted text. Conditions: those that each theorem names; the library's tables hold what the row lists.
-/
import Derived.Test.YtokhnoogkdlidaaGreatDoorPkP12
import Derived.Test.YtokhnoogkdlidaaGreatDoorPkP17
namespace Go.Proofs.YtokhnoogkdlidaaGreatDoor
open Go.ChangeShapes Go.WideShapes Go.ChangeAt Go.RowKit Go.Shelf
structure RawRows (base:Nat)(W:World)(ss:List (RRec × Value))(es:List (RCho × Value))(ts:List Tok)(sv ev rv:Value):Prop where
 structs:W.ownsRow base 102 3 sv ss.length (recsCells ss)
 enums:W.ownsRow base 105 3 ev es.length (chosCells es)
 roots:W.ownsRow base 97 3 rv ts.length (toksCells ts)
 fields:∀ p ∈ ss,W.ownsRow base 114 8 p.2 p.1.fields.length (fieldsCells p.1.fields)
 names:∀ p ∈ es,W.ownsRow base 97 3 p.2 p.1.names.length (toksCells p.1.names)
theorem RawAt.rows {A base:Nat}{W:World}{ss:List (RRec × Value)}{es:List (RCho × Value)}{ts:List Tok}{sv ev rv:Value}(h:RawAt A W ss es ts sv ev rv)(hb:base≤A+1):RawRows base W ss es ts sv ev rv:=
 ⟨ownsRow_base h.structs hb,ownsRow_base h.enums hb,ownsRow_base h.roots hb,fun p hp=>ownsRow_base (h.fields p hp) hb,fun p hp=>ownsRow_base (h.names p hp) hb⟩
theorem RawRows.base {base base':Nat}{W:World}{ss:List (RRec × Value)}{es:List (RCho × Value)}{ts:List Tok}{sv ev rv:Value}(h:RawRows base W ss es ts sv ev rv)(hb:base'≤base):RawRows base' W ss es ts sv ev rv:=
 ⟨ownsRow_base h.structs hb,ownsRow_base h.enums hb,ownsRow_base h.roots hb,fun p hp=>ownsRow_base (h.fields p hp) hb,fun p hp=>ownsRow_base (h.names p hp) hb⟩
theorem row_exc {X:Nat}{w w':World}(h:Exc X w.heap.size w w'){base:Nat}{e:TypeId}{size:Nat}{v:Value}{n:Nat}{xs:List Value}(ho:w.ownsRow base e size v n xs)(hX:X<base):w'.ownsRow base e size v n xs:=
 h.ownsRow ho (fun e=>by have:=(ownsRow_lt ho X e).1;omega)
theorem RawRows.exc {base X:Nat}{W W':World}{ss:List (RRec × Value)}{es:List (RCho × Value)}{ts:List Tok}{sv ev rv:Value}(h:RawRows base W ss es ts sv ev rv)(hx:Exc X W.heap.size W W')(hX:X<base):RawRows base W' ss es ts sv ev rv:=
 ⟨row_exc hx h.structs hX,row_exc hx h.enums hX,row_exc hx h.roots hX,fun p hp=>row_exc hx (h.fields p hp) hX,fun p hp=>row_exc hx (h.names p hp) hX⟩
theorem row_below {w w':World}(h:Below w.heap.size w w'){base:Nat}{e:TypeId}{size:Nat}{v:Value}{n:Nat}{xs:List Value}(ho:w.ownsRow base e size v n xs):w'.ownsRow base e size v n xs:=by
 obtain ⟨hl,h'⟩:=ho
 refine ⟨hl,?_⟩
 rcases h' with h1|⟨g',cap',cur,hv,h1,hg',h2⟩
 · exact .inl h1
 · exact .inr ⟨g',cap',cur,hv,h1,(h.block g' (blk_lt hg')).trans hg',h2⟩
theorem RawRows.below {base:Nat}{W W':World}{ss:List (RRec × Value)}{es:List (RCho × Value)}{ts:List Tok}{sv ev rv:Value}(h:RawRows base W ss es ts sv ev rv)(hx:Below W.heap.size W W'):RawRows base W' ss es ts sv ev rv:=
 ⟨row_below hx h.structs,row_below hx h.enums,row_below hx h.roots,fun p hp=>row_below hx (h.fields p hp),fun p hp=>row_below hx (h.names p hp)⟩
theorem RawRows.forms {base:Nat}{W:World}{ss:List (RRec × Value)}{es:List (RCho × Value)}{ts:List Tok}{sv ev rv:Value}(h:RawRows base W ss es ts sv ev rv) :
  ∃ sa sc ea ec ra rc,sv=.slice sa ss.length sc∧ev=.slice ea es.length ec∧rv=.slice ra ts.length rc:=by
 obtain ⟨sa,sc,h1⟩:=ownsRow_form h.structs
 obtain ⟨ea,ec,h2⟩:=ownsRow_form h.enums
 obtain ⟨ra,rc,h3⟩:=ownsRow_form h.roots
 exact ⟨sa,sc,ea,ec,ra,rc,h1,h2,h3⟩
def SchemaPost (R g c:Nat)(l:List Tok)(w:World)(x:Res RRaw)(e:Ending)(w':World):Prop:=
 match x with
 | .ok a r'=>∃ ss es ts sv ev rv,e=.returned (.tuple #[.agg #[sv,ev,rv],.bool true])∧a=rawOf ss es ts∧RawRows (w.heap.size+1) w' ss es ts sv ev rv∧Rd w' R g c l r' (0,0)∧Exc R w.heap.size w w'
 | .no cc p=>e=.returned (.tuple #[.agg #[.slice none 0 0,.slice none 0 0,.slice none 0 0],.bool false])∧(∃ r',Rd w' R g c l r' (cc,p))∧Exc R w.heap.size w w'
theorem isT_end {r:List Tok}(h:Ends r):isT 0 [] r=decide ((hd r).kind=0):=by
 cases r with
 | nil=>exact h.elim
 | cons t q =>
  unfold isT
  show (decide (t.kind=0)&&decide (t.text=[]))=decide (t.kind=0)
  rcases h with ⟨h1,h2,_⟩|⟨h1,_⟩
  · rw [h1,h2];rfl
  · rw [decide_eq_false h1,Bool.false_and]
def SchemaAt (R g c:Nat)(l:List Tok)(A:Nat)(w0:World)(x:Res RRaw)(wr:World):Prop:=
 ∃ ss es ts sv ev rv r1,RawAt A wr ss es ts sv ev rv∧Rd wr R g c l r1 (0,0)∧Exc R A w0 wr∧ss.length+es.length+ts.length+r1.length≤l.length∧x=schemaL (rawOf ss es ts) r1
set_option maxRecDepth 100000 in
set_option maxHeartbeats 2000000 in
theorem schema_any (w:World)(R g c:Nat)(l r:List Tok)(hl:l.length≤2048)(h:Rd w R g c l r (0,0)) :
  Calls Tryz.prog 47 #[.pointer (some ⟨R,0,none⟩)] w (SchemaPost R g c l w (schemaL noRaw r)):=by
 have hR:=blk_lt h.blk
 have hg:=h.glt
 have hb0:Below w.heap.size w ((w.alloc (.cells #[.slice none 0 0,.slice none 0 0,.slice none 0 0] 68)).alloc (.cells #[.slice none 0 0,.slice none 0 0,.slice none 0 0] 68)):=((Below.refl _ _).alloc (Nat.le_refl _) _).alloc (by simp) _
 have HX0:=Lib.hid (Exc.of_below (R:=R) hb0)
 have HR0:=Lib.hid (h.keep hb0)
 have HZ0:=Lib.hid (blk_alloc (heap_alloc_new w (.cells #[.slice none 0 0,.slice none 0 0,.slice none 0 0] 68)) (.cells #[.slice none 0 0,.slice none 0 0,.slice none 0 0] 68))
 have hA0:((w.alloc (.cells #[.slice none 0 0,.slice none 0 0,.slice none 0 0] 68)).alloc (.cells #[.slice none 0 0,.slice none 0 0,.slice none 0 0] 68)).heap[w.heap.size+1]?=some (.cells #[.slice none 0 0,.slice none 0 0,.slice none 0 0] 68 (0,0)):=by
  have:=heap_alloc_new (w.alloc (.cells #[.slice none 0 0,.slice none 0 0,.slice none 0 0] 68)) (.cells #[.slice none 0 0,.slice none 0 0,.slice none 0 0] 68)
  rwa [World.size_alloc] at this
 have HA0:Hid (RawAt (w.heap.size+1) ((w.alloc (.cells #[.slice none 0 0,.slice none 0 0,.slice none 0 0] 68)).alloc (.cells #[.slice none 0 0,.slice none 0 0,.slice none 0 0] 68)) [] [] [] (.slice none 0 0) (.slice none 0 0) (.slice none 0 0)):=
  Lib.hid ⟨hA0,World.ownsRow_nil _ _ _ _,World.ownsRow_nil _ _ _ _,World.ownsRow_nil _ _ _ _,(fun p hp=>by cases hp),(fun p hp=>by cases hp),(fun p hp=>by cases hp)⟩
 have hlt0:w.heap.size+1<((w.alloc (.cells #[.slice none 0 0,.slice none 0 0,.slice none 0 0] 68)).alloc (.cells #[.slice none 0 0,.slice none 0 0,.slice none 0 0] 68)).heap.size:=blk_lt hA0
 clear h hb0 hA0
 go_enter Tryz.func47,Tryz.ntmps47
 go_upto_region 2 with (fail)
 generalize hW0:(w.alloc (.cells #[.slice none 0 0,.slice none 0 0,.slice none 0 0] 68)).alloc (.cells #[.slice none 0 0,.slice none 0 0,.slice none 0 0] 68)=W0 at *
 clear hW0
 have hcnt:r.length≤l.length:=HR0.out.len
 go_loopw [] (fun wr=>SchemaAt R g c l (w.heap.size+1) W0 (schemaL noRaw r) wr) (fun wr=>lenAt (wr.cell? ⟨R,0,none⟩))
 case atStart=>exact ⟨[],[],[],_,_,_,r,HA0.out,HR0.out,Exc.refl _ _ _,by simpa using hcnt,rfl⟩
 case round =>
  clear HA0 HR0
  obtain ⟨ss,es,ts,sv,ev,rv,r1,ha,hr,hx,hc,hs⟩:=hrel
  have hend:=hr.ends
  have HST:=Lib.hid (hs.trans (schemaL_step hend))
  have HM:=Lib.hid (show lenAt (wr.cell? ⟨R,0,none⟩)=r1.length by rw [hr.cells3.1];rfl)
  have HEAT:=Lib.hid (part_eats (a:=rawOf ss es ts) hend)
  have HK:=Lib.hid (isT_end hend)
  have HA:=Lib.hid ha
  have HR:=Lib.hid hr
  have HX:=Lib.hid hx
  have HZ:=Lib.hid (blk_exc HZ0.out hx (by omega) (by omega))
  clear ha hr hx hs hend
  go_wp2_with fail
  refine (rdStands_any _ R g c l r1 (0,0) 0 ⟨#[]⟩ [] (by kernel_rfl) HR.out).mono ?_
  rintro e W2 ⟨rfl,hb2⟩
  have HA2:=Lib.hid (HA.out.fell hb2)
  have HR2:=Lib.hid (HR.out.keep hb2)
  have HX2:=Lib.hid (HX.out.bel (by omega) hb2)
  have HZ2:=Lib.hid (blk_below HZ.out hb2 (blk_lt HZ.out))
  clear hb2 HA HR HX HZ
  rw [HK.out]
  by_cases hk:(hd r1).kind=0
  · have HST1:=Lib.hid (HST.out.trans (if_pos hk))
    rw [decide_eq_true hk]
    clear hk
    obtain ⟨hA2,a0,a1,a2,_⟩:=blk3 HA2.out.blk
    obtain ⟨hz,z0,z1,z2,y0,y1,y2⟩:=blk3 HZ2.out
    have HRW:=Lib.hid (HA2.out.rows (base:=w.heap.size+1) (by omega))
    obtain ⟨sa,sc,ea,ec,ra,rc,rfl,rfl,rfl⟩:=HRW.out.forms
    go_wp2
    refine post_gen (fun Wf=>Wf.heap[w.heap.size]?=some (.cells #[.slice sa ss.length sc,.slice ea es.length ec,.slice ra ts.length rc] 68 (0,0))∧RawRows (w.heap.size+1) Wf ss es ts (.slice sa ss.length sc) (.slice ea es.length ec) (.slice ra ts.length rc)∧Rd Wf R g c l r1 (0,0)∧Exc R w.heap.size w Wf) ⟨?_,?_,?_,?_⟩ ?_
    · exact blk_set3 HZ2.out _ _ _
    · exact HRW.out.exc (exc_set3 W2 w.heap.size _ _ _) (by omega)
    · exact HR2.out.set3 (by omega) (by omega) _ _ _
    · exact (HX0.out.trans (HX2.out.mono (by omega))).set3 (Nat.le_refl _) _ _ _
    · rintro Wf ⟨e1,e2,e3,e4⟩
      obtain ⟨_,c0,c1,c2,_⟩:=blk3 e1
      rw [HST1.out]
      exact bodyPost_ret (v:=.tuple #[.agg #[.slice sa ss.length sc,.slice ea es.length ec,.slice ra ts.length rc],.bool true]) (by simp [results,Tryz.results47,go_sem,c0,c1,c2]) rfl ⟨ss,es,ts,_,_,_,rfl,rfl,e2,e3,e4⟩
  · have HST1:=Lib.hid (HST.out.trans (if_neg hk))
    rw [decide_eq_false hk]
    clear hk
    go_wp2_with fail
    refine (part_any _ R g c (w.heap.size+1) l r1 ss es ts sv ev rv hl (by omega) (by omega) HR2.out HA2.out hc).mono ?_
    rintro e W3 hp
    have HP:=Lib.hid hp
    clear hp
    generalize partR (rawOf ss es ts) r1=q at *
    obtain ⟨a',r'⟩|⟨cc,pp⟩:=q
    · obtain ⟨rfl,⟨ss',es',ts',sv',ev',rv',rfl,ha',hc'⟩,hr',hx'⟩:=HP.out
      have HA3:=Lib.hid ha'
      have HR3:=Lib.hid hr'
      have HX3:=Lib.hid (HX2.out.trans hx')
      have HM3:=Lib.hid (show lenAt (W3.cell? ⟨R,0,none⟩)=r'.length by rw [hr'.cells3.1];rfl)
      have HST2:=Lib.hid (HST1.out.trans (bind_ok _ _ _))
      have HLT:=Lib.hid (HEAT.out _ _ rfl).2
      clear ha' hr' hx' HP
      go_wp2
      go_roundw
      case rel=>exact ⟨ss',es',ts',sv',ev',rv',r',HA3.out,HR3.out,HX3.out,hc',HST2.out⟩
      case measure=>rw [HM3.out,HM.out];exact HLT.out
    · obtain ⟨rfl,⟨r',hr'⟩,hx'⟩:=HP.out
      have HR3:=Lib.hid hr'
      have HX3:=Lib.hid (HX2.out.trans hx')
      have HZ3:=Lib.hid (blk_exc HZ2.out hx' (by omega) (by omega))
      have HST2:=Lib.hid (HST1.out.trans (bind_no _ _ _))
      obtain ⟨hz,z0,z1,z2,y0,y1,y2⟩:=blk3 HZ3.out
      clear hr' hx' HP
      go_wp2
      refine post_gen (fun Wf=>Wf.heap[w.heap.size]?=some (.cells #[.slice none 0 0,.slice none 0 0,.slice none 0 0] 68 (0,0))∧Rd Wf R g c l r' (cc,pp)∧Exc R w.heap.size w Wf) ⟨?_,?_,?_⟩ ?_
      · exact blk_set3 HZ3.out _ _ _
      · exact HR3.out.set3 (by omega) (by omega) _ _ _
      · exact (HX0.out.trans (HX3.out.mono (by omega))).set3 (Nat.le_refl _) _ _ _
      · rintro Wf ⟨e1,e3,e4⟩
        obtain ⟨_,c0,c1,c2,_⟩:=blk3 e1
        rw [HST2.out]
        exact bodyPost_ret (v:=.tuple #[.agg #[.slice none 0 0,.slice none 0 0,.slice none 0 0],.bool false]) (by simp [results,Tryz.results47,go_sem,c0,c1,c2]) rfl ⟨rfl,⟨r',e3⟩,e4⟩
end Go.Proofs.YtokhnoogkdlidaaGreatDoor
namespace Go.Proofs.YtokhnoogkdlidaaGreatDoor
open Go.ChangeShapes Go.WideShapes Go.ChangeAt Go.RowKit Go.Shelf
theorem begins_any (p:Option Addr)(n cap i:Nat)(x:Int)(zs:List Int)(w:World)(hx:x=i)(hz:Bytes w p zs)(hn:zs.length=n)(hl:n≤281474976710656)(hi:i≤n) :
  Calls Tryz.prog 97 #[.slice p n cap,.int .i64 x] w fun e w'=>e=.returned (.bool (begins zs i))∧Below w.heap.size w w':=by
 subst hx
 have HR:=Lib.hid (fun (j:Nat) (y:Int) v k W hy hb hk=>stands_any p n cap j y zs v k W hy (Bytes.below hz (Nat.le_refl _) hb) hn hk hl)
 have HE:Hid (begins zs i=(stA zs isDig i||(stA zs (isC 45) i&&stA zs isDig (i+1)))):=rfl
 generalize begins zs i=r at HE ⊢
 clear hz hn
 cases h1:stA zs isDig i
 · cases h2:stA zs (isC 45) i
   · rw [h1,h2] at HE
     have H1:=Lib.hid h1
     have H2:=Lib.hid h2
     clear h1 h2
     go_enter Tryz.func97,Tryz.ntmps97
     go_wp2_with fail
     refine (digit_any _).mono ?_
     rintro e W1 ⟨v1,rfl,hb1,hk1⟩
     have HK1:=Lib.hid hk1
     have HB1:=Lib.hid hb1
     clear hk1 hb1
     go_wp2_with fail
     refine (HR.out i _ v1 isDig W1 rfl HB1.out HK1.out).mono ?_
     rintro e W2 ⟨rfl,hb2⟩
     have HB2:=Lib.hid (HB1.out.trans (hb2.mono HB1.out.size))
     clear hb2
     rw [H1.out]
     go_wp2_with fail
     refine (minus_any _).mono ?_
     rintro e W3 ⟨v3,rfl,hb3,hk3⟩
     have HK3:=Lib.hid hk3
     have HB3:=Lib.hid (HB2.out.trans (hb3.mono HB2.out.size))
     clear hk3 hb3
     go_wp2_with fail
     refine (HR.out i _ v3 (isC 45) W3 rfl HB3.out HK3.out).mono ?_
     rintro e W4 ⟨rfl,hb4⟩
     have HB4:=Lib.hid (HB3.out.trans (hb4.mono HB3.out.size))
     clear hb4
     rw [H2.out]
     go_wp2
     go_ret
     exact ⟨ret_bool (by rw [HE.out];rfl),HB4.out⟩
   · rw [h1,h2] at HE
     have H1:=Lib.hid h1
     have H2:=Lib.hid h2
     clear h1 h2
     go_enter Tryz.func97,Tryz.ntmps97
     go_wp2_with fail
     refine (digit_any _).mono ?_
     rintro e W1 ⟨v1,rfl,hb1,hk1⟩
     have HK1:=Lib.hid hk1
     have HB1:=Lib.hid hb1
     clear hk1 hb1
     go_wp2_with fail
     refine (HR.out i _ v1 isDig W1 rfl HB1.out HK1.out).mono ?_
     rintro e W2 ⟨rfl,hb2⟩
     have HB2:=Lib.hid (HB1.out.trans (hb2.mono HB1.out.size))
     clear hb2
     rw [H1.out]
     go_wp2_with fail
     refine (minus_any _).mono ?_
     rintro e W3 ⟨v3,rfl,hb3,hk3⟩
     have HK3:=Lib.hid hk3
     have HB3:=Lib.hid (HB2.out.trans (hb3.mono HB2.out.size))
     clear hk3 hb3
     go_wp2_with fail
     refine (HR.out i _ v3 (isC 45) W3 rfl HB3.out HK3.out).mono ?_
     rintro e W4 ⟨rfl,hb4⟩
     have HB4:=Lib.hid (HB3.out.trans (hb4.mono HB3.out.size))
     clear hb4
     rw [H2.out]
     go_wp2_with fail
     refine (digit_any _).mono ?_
     rintro e W5 ⟨v5,rfl,hb5,hk5⟩
     have HK5:=Lib.hid hk5
     have HB5:=Lib.hid (HB4.out.trans (hb5.mono HB4.out.size))
     clear hk5 hb5
     go_wp2_with fail
     refine (HR.out (i+1) _ v5 isDig W5 (by omega) HB5.out HK5.out).mono ?_
     rintro e W6 ⟨rfl,hb6⟩
     have HB6:=Lib.hid (HB5.out.trans (hb6.mono HB5.out.size))
     clear hb6
     generalize stA zs isDig (i+1)=r2 at HE ⊢
     go_wp2
     go_ret
     exact ⟨ret_bool (by rw [HE.out];simp),HB6.out⟩
 · rw [h1] at HE
   have H1:=Lib.hid h1
   clear h1
   go_enter Tryz.func97,Tryz.ntmps97
   go_wp2_with fail
   refine (digit_any _).mono ?_
   rintro e W1 ⟨v1,rfl,hb1,hk1⟩
   have HK1:=Lib.hid hk1
   have HB1:=Lib.hid hb1
   clear hk1 hb1
   go_wp2_with fail
   refine (HR.out i _ v1 isDig W1 rfl HB1.out HK1.out).mono ?_
   rintro e W2 ⟨rfl,hb2⟩
   have HB2:=Lib.hid (HB1.out.trans (hb2.mono HB1.out.size))
   clear hb2
   rw [H1.out]
   go_wp2
   go_ret
   exact ⟨ret_bool (by rw [HE.out];rfl),HB2.out⟩
def numVal (zs:List Int)(i:Nat):Value:=if numBad zs i=true then .tuple #[.int .i64 0,.bool false] else .tuple #[.int .i64 (numEnd zs i:Nat),.bool true]
theorem numVal_eq (zs:List Int)(i:Nat):numVal zs i=if numBad zs i=true then .tuple #[.int .i64 0,.bool false] else .tuple #[.int .i64 (numEnd zs i:Nat),.bool true]:=rfl
theorem numVal_bad {c:Bool}(E:Nat)(h:c=true):(if c=true then Value.tuple #[.int .i64 0,.bool false] else .tuple #[.int .i64 (E:Nat),.bool true])=.tuple #[.int .i64 0,.bool false]:=if_pos h
theorem numVal_good {c:Bool}(E:Nat)(h:c=false):(if c=true then Value.tuple #[.int .i64 0,.bool false] else .tuple #[.int .i64 (E:Nat),.bool true])=.tuple #[.int .i64 (E:Nat),.bool true]:=if_neg (by rw [h];decide)
set_option maxHeartbeats 800000 in
theorem number_any (p:Option Addr)(n cap i:Nat)(x:Int)(zs:List Int)(w:World)(hx:x=i)(hz:Bytes w p zs)(hn:zs.length=n)(hl:n≤281474976710656)(hi:i≤n) :
  Calls Tryz.prog 98 #[.slice p n cap,.int .i64 x] w fun e w'=>e=.returned (numVal zs i)∧Below w.heap.size w w':=by
 subst hx
 have HR:=Lib.hid (fun (j:Nat) (y:Int) v k W hy hb hk=>stands_any p n cap j y zs v k W hy (Bytes.below hz (Nat.le_refl _) hb) hn hk hl)
 have HU:=Lib.hid (fun (j:Nat) (y:Int) v k W hy hj hb hk=>run_any p n cap j y zs v k W hy (Bytes.below hz (Nat.le_refl _) hb) hn hk hl hj)
 have HN:=Lib.hid hn
 clear hz hn
 cases h0:stA zs (isC 45) i
 · have hM:minusTo zs i=i:=by unfold minusTo;rw [if_neg (by rw [h0];decide)]
   have hE:numBad zs i=(decide (runTo zs isDig i-i=0)||decide (20<runTo zs isDig i-i)||stA zs isLet (runTo zs isDig i)||(stA zs (isC 48) i&&(false||decide (1<runTo zs isDig i-i)))):=by
    unfold numBad zeroAhead
    rw [hM,h0]
   have hN:numEnd zs i=runTo zs isDig i:=by unfold numEnd;rw [hM]
   have hlo:=runTo_ge zs isDig i
   have hup:=runTo_le zs isDig i (by have:=HN.out;omega)
   rw [HN.out] at hup
   have HV:=Lib.hid (numVal_eq zs i)
   rw [hE,hN] at HV
   have H0:=Lib.hid h0
   clear hE hN hM h0
   go_enter Tryz.func98,Tryz.ntmps98
   go_wp2_with fail
   refine (minus_any _).mono ?_
   rintro e W1 ⟨v1,rfl,hb1,hk1⟩
   have HK1:=Lib.hid hk1
   have HB1:=Lib.hid hb1
   clear hk1 hb1
   go_wp2_with fail
   refine (HR.out i _ v1 (isC 45) W1 rfl HB1.out HK1.out).mono ?_
   rintro e W2 ⟨rfl,hb2⟩
   have HB2:=Lib.hid (HB1.out.trans (hb2.mono HB1.out.size))
   clear hb2
   rw [H0.out]
   go_wp2_with fail
   refine (digit_any _).mono ?_
   rintro e W3 ⟨v3,rfl,hb3,hk3⟩
   have HK3:=Lib.hid hk3
   have HB3:=Lib.hid (HB2.out.trans (hb3.mono HB2.out.size))
   clear hk3 hb3
   go_wp2_with fail
   refine (HU.out i _ v3 isDig W3 rfl (by omega) HB3.out HK3.out).mono ?_
   rintro e W4 ⟨rfl,hb4⟩
   have HB4:=Lib.hid (HB3.out.trans (hb4.mono HB3.out.size))
   clear hb4
   generalize runTo zs isDig i=E at hlo hup HV ⊢
   by_cases c0:E-i=0
   · have t0:(((E:Int)-(i:Int))==0)=true:=by simp;omega
     have HV':=Lib.hid (HV.out.trans (numVal_bad E (by simp [c0])))
     clear c0
     go_wp2
     go_ret2
     exact ⟨by rw [HV'.out];rfl,HB4.out⟩
   have t0:(((E:Int)-(i:Int))==0)=false:=by simp;omega
   by_cases c1:20<E-i
   · have HV':=Lib.hid (HV.out.trans (numVal_bad E (by simp [c1])))
     have t1:decide (20<(E:Int)-(i:Int))=true:=by simp;omega
     go_wp2
     go_ret2
     exact ⟨by rw [HV'.out];rfl,HB4.out⟩
   have t1:decide (20<(E:Int)-(i:Int))=false:=by simp;omega
   have t1b:¬(20<(E:Int)-(i:Int)):=by omega
   go_wp2_with fail
   refine (letter_any _).mono ?_
   rintro e W5 ⟨v5,rfl,hb5,hk5⟩
   have HK5:=Lib.hid hk5
   have HB5:=Lib.hid (HB4.out.trans (hb5.mono HB4.out.size))
   clear hk5 hb5
   go_wp2_with fail
   refine (HR.out E _ v5 isLet W5 rfl HB5.out HK5.out).mono ?_
   rintro e W6 ⟨rfl,hb6⟩
   have HB6:=Lib.hid (HB5.out.trans (hb6.mono HB5.out.size))
   clear hb6
   cases h1:stA zs isLet E
   rotate_left
   · have HV':=Lib.hid (HV.out.trans (numVal_bad E (by simp [h1])))
     clear h1
     go_wp2
     go_ret2
     exact ⟨by rw [HV'.out];rfl,HB6.out⟩
   have H1:=Lib.hid h1
   clear h1
   go_wp2_with fail
   refine (among_any ⟨#[48]⟩ _).mono ?_
   rintro e W7 ⟨v7,rfl,hb7,hk7⟩
   have HK7:Hid (KindV W7 v7 (isC 48)):=hk7.congr fun c _ _=>by simp [amg,bts,isC]
   have HB7:=Lib.hid (HB6.out.trans (hb7.mono HB6.out.size))
   clear hk7 hb7
   go_wp2_with fail
   refine (HR.out i _ v7 (isC 48) W7 rfl HB7.out HK7.out).mono ?_
   rintro e W8 ⟨rfl,hb8⟩
   have HB8:=Lib.hid (HB7.out.trans (hb8.mono HB7.out.size))
   clear hb8
   cases h2:stA zs (isC 48) i
   · have HV':=Lib.hid (HV.out.trans (numVal_good E (by rw [H1.out,h2,decide_eq_false c0,decide_eq_false c1];rfl)))
     clear h2
     go_wp2
     go_ret2
     exact ⟨by rw [HV'.out];rfl,HB8.out⟩
   · by_cases c2:1<E-i
     · have HV':=Lib.hid (HV.out.trans (numVal_bad E (by simp [h2,c2])))
       have t2:decide (1<(E:Int)-i)=true:=by simp;omega
       clear h2 c2
       go_wp2
       go_ret2
       exact ⟨by rw [HV'.out];rfl,HB8.out⟩
     · have HV':=Lib.hid (HV.out.trans (numVal_good E (by rw [H1.out,h2,decide_eq_false c0,decide_eq_false c1,decide_eq_false c2];rfl)))
       have t2:decide (1<(E:Int)-i)=false:=by simp;omega
       clear h2 c2
       go_wp2
       go_ret2
       exact ⟨by rw [HV'.out];rfl,HB8.out⟩
 · have hM:minusTo zs i=(i+1):=by unfold minusTo;rw [if_pos (by rw [h0])]
   have hE:numBad zs i=(decide (runTo zs isDig (i+1)-(i+1)=0)||decide (20<runTo zs isDig (i+1)-(i+1))||stA zs isLet (runTo zs isDig (i+1))||(stA zs (isC 48) (i+1)&&(true||decide (1<runTo zs isDig (i+1)-(i+1))))):=by
    unfold numBad zeroAhead
    rw [hM,h0]
   have hN:numEnd zs i=runTo zs isDig (i+1):=by unfold numEnd;rw [hM]
   have hlo:=runTo_ge zs isDig (i+1)
   have hup:=runTo_le zs isDig (i+1) (by have:=stA_lt h0;omega)
   rw [HN.out] at hup
   have HV:=Lib.hid (numVal_eq zs i)
   rw [hE,hN] at HV
   have H0:=Lib.hid h0
   clear hE hN hM h0
   go_enter Tryz.func98,Tryz.ntmps98
   go_wp2_with fail
   refine (minus_any _).mono ?_
   rintro e W1 ⟨v1,rfl,hb1,hk1⟩
   have HK1:=Lib.hid hk1
   have HB1:=Lib.hid hb1
   clear hk1 hb1
   go_wp2_with fail
   refine (HR.out i _ v1 (isC 45) W1 rfl HB1.out HK1.out).mono ?_
   rintro e W2 ⟨rfl,hb2⟩
   have HB2:=Lib.hid (HB1.out.trans (hb2.mono HB1.out.size))
   clear hb2
   rw [H0.out]
   go_wp2_with fail
   refine (digit_any _).mono ?_
   rintro e W3 ⟨v3,rfl,hb3,hk3⟩
   have HK3:=Lib.hid hk3
   have HB3:=Lib.hid (HB2.out.trans (hb3.mono HB2.out.size))
   clear hk3 hb3
   go_wp2_with fail
   refine (HU.out (i+1) _ v3 isDig W3 (by omega) (by omega) HB3.out HK3.out).mono ?_
   rintro e W4 ⟨rfl,hb4⟩
   have HB4:=Lib.hid (HB3.out.trans (hb4.mono HB3.out.size))
   clear hb4
   generalize runTo zs isDig (i+1)=E at hlo hup HV ⊢
   by_cases c0:E-(i+1)=0
   · have t0:(((E:Int)-((i:Int)+1))==0)=true:=by simp;omega
     have HV':=Lib.hid (HV.out.trans (numVal_bad E (by simp [c0])))
     clear c0
     go_wp2
     go_ret2
     exact ⟨by rw [HV'.out];rfl,HB4.out⟩
   have t0:(((E:Int)-((i:Int)+1))==0)=false:=by simp;omega
   by_cases c1:20<E-(i+1)
   · have HV':=Lib.hid (HV.out.trans (numVal_bad E (by simp [c1])))
     have t1:decide (20<(E:Int)-((i:Int)+1))=true:=by simp;omega
     go_wp2
     go_ret2
     exact ⟨by rw [HV'.out];rfl,HB4.out⟩
   have t1:decide (20<(E:Int)-((i:Int)+1))=false:=by simp;omega
   have t1b:¬(20<(E:Int)-((i:Int)+1)):=by omega
   go_wp2_with fail
   refine (letter_any _).mono ?_
   rintro e W5 ⟨v5,rfl,hb5,hk5⟩
   have HK5:=Lib.hid hk5
   have HB5:=Lib.hid (HB4.out.trans (hb5.mono HB4.out.size))
   clear hk5 hb5
   go_wp2_with fail
   refine (HR.out E _ v5 isLet W5 rfl HB5.out HK5.out).mono ?_
   rintro e W6 ⟨rfl,hb6⟩
   have HB6:=Lib.hid (HB5.out.trans (hb6.mono HB5.out.size))
   clear hb6
   cases h1:stA zs isLet E
   rotate_left
   · have HV':=Lib.hid (HV.out.trans (numVal_bad E (by simp [h1])))
     clear h1
     go_wp2
     go_ret2
     exact ⟨by rw [HV'.out];rfl,HB6.out⟩
   have H1:=Lib.hid h1
   clear h1
   go_wp2_with fail
   refine (among_any ⟨#[48]⟩ _).mono ?_
   rintro e W7 ⟨v7,rfl,hb7,hk7⟩
   have HK7:Hid (KindV W7 v7 (isC 48)):=hk7.congr fun c _ _=>by simp [amg,bts,isC]
   have HB7:=Lib.hid (HB6.out.trans (hb7.mono HB6.out.size))
   clear hk7 hb7
   go_wp2_with fail
   refine (HR.out (i+1) _ v7 (isC 48) W7 (by omega) HB7.out HK7.out).mono ?_
   rintro e W8 ⟨rfl,hb8⟩
   have HB8:=Lib.hid (HB7.out.trans (hb8.mono HB7.out.size))
   clear hb8
   cases h2:stA zs (isC 48) (i+1)
   · have HV':=Lib.hid (HV.out.trans (numVal_good E (by rw [H1.out,h2,decide_eq_false c0,decide_eq_false c1];rfl)))
     clear h2
     go_wp2
     go_ret2
     exact ⟨by rw [HV'.out];rfl,HB8.out⟩
   · have HV':=Lib.hid (HV.out.trans (numVal_bad E (by simp [h2])))
     clear h2
     go_wp2
     go_ret2
     exact ⟨by rw [HV'.out];rfl,HB8.out⟩
end Go.Proofs.YtokhnoogkdlidaaGreatDoor
namespace Go.Proofs.YtokhnoogkdlidaaGreatDoor
open Go.ChangeShapes Go.WideShapes Go.ChangeAt Go.RowKit Go.Shelf
def okU (zs:List Int):Bool:=decide (u8At zs 0<0)
def quoVal (zs:List Int)(i:Nat):Value:=if quoBad okU zs i=true then .tuple #[.int .i64 0,.bool false] else .tuple #[.int .i64 (quoEnd zs i+1:Nat),.bool true]
theorem quoVal_eq (zs:List Int)(i:Nat):quoVal zs i=if quoBad okU zs i=true then .tuple #[.int .i64 0,.bool false] else .tuple #[.int .i64 (quoEnd zs i+1:Nat),.bool true]:=rfl
theorem sub_length (zs:List Int)(i j:Nat)(_h:i≤j)(h2:j≤zs.length):(sub zs i j).length=j-i:=by
 unfold sub
 rw [List.length_take,List.length_drop]
 omega
theorem sub_get (zs:List Int)(i j k:Nat)(h:k<j-i):(sub zs i j).getD k 0=zs.getD (i+k) 0:=by
 unfold sub
 simp [List.getD,h]
theorem sub_bd {zs:List Int}(h:∀ i,0≤zs.getD i 0∧zs.getD i 0≤255)(i j:Nat):∀ k,0≤(sub zs i j).getD k 0∧(sub zs i j).getD k 0≤255:=by
 intro k
 by_cases hk:k<j-i
 · rw [sub_get zs i j k hk]
   exact h _
 · have:(sub zs i j).getD k 0=0:=by
    unfold sub
    rw [List.getD,List.getElem?_eq_none (by rw [List.length_take];omega)]
    rfl
   rw [this]
   omega
theorem sub_utf8 (b off c n i j m:Nat)(zs:List Int)(w:World)(hT:Tabs w)(hz:Bytes w (some ⟨b,off,none⟩) zs)(hn:zs.length=n)(hl:n≤281474976710656)(hij:i≤j)(hj:j<n)(hm:m=j-i)(hc:m≤c) :
  Calls Tryz.prog 123 #[.slice (some ⟨b,off+i,none⟩) m c] w fun e w'=>e=.returned (.int .i64 (u8At (sub zs i j) 0))∧Below w.heap.size w w':=by
 obtain ⟨b',off',he,hlt,hcell⟩:=hz.2 (by rintro rfl;simp at hn;omega)
 cases he
 have hlen:=sub_length zs i j hij (by omega)
 refine wutf8_off b (off+i) c m (sub zs i j) w hT (sub_bd hz.1 i j) hlt (fun k hk=>?_) (by omega) (by omega) hc
 rw [sub_get zs i j k (by omega),Nat.add_assoc]
 exact hcell (i+k) (by omega)
set_option maxHeartbeats 800000 in
theorem quoted_any (p:Option Addr)(n cap i:Nat)(x:Int)(zs:List Int)(w:World)(hx:x=i)(hT:Tabs w)(hz:Bytes w p zs)(hn:zs.length=n)(hl:n≤281474976710656)(hi:i<n)(hcap:n≤cap) :
  Calls Tryz.prog 100 #[.slice p n cap,.int .i64 x] w fun e w'=>e=.returned (quoVal zs i)∧Below w.heap.size w w':=by
 subst hx
 obtain ⟨b,off,rfl,_,_⟩:=hz.2 (by rintro rfl;simp at hn;omega)
 have HR:=Lib.hid (fun (j:Nat) (y:Int) v k W hy hb hk=>stands_any (some ⟨b,off,none⟩) n cap j y zs v k W hy (Bytes.below hz (Nat.le_refl _) hb) hn hk hl)
 have HU:=Lib.hid (fun (j:Nat) (y:Int) v k W hy hj hb hk=>run_any (some ⟨b,off,none⟩) n cap j y zs v k W hy (Bytes.below hz (Nat.le_refl _) hb) hn hk hl hj)
 have HQ:=Lib.hid (fun c j m W hb hij hj hm hc=>sub_utf8 b off c n (i+1) j m zs W (Tabs.below hT (Nat.le_refl _) hb) (Bytes.below hz (Nat.le_refl _) hb) hn hl hij hj hm hc)
 have HN:=Lib.hid hn
 have HV:=Lib.hid (quoVal_eq zs i)
 have hlo:=runTo_ge zs isPlain (i+1)
 have hup:=runTo_le zs isPlain (i+1) (by omega)
 rw [show quoEnd zs i=runTo zs isPlain (i+1) from rfl] at HV
 have HB0:Hid (quoBad okU zs i=(!stA zs (isC 34) (runTo zs isPlain (i+1)) || !okU (sub zs (i+1) (runTo zs isPlain (i+1))))):=rfl
 rw [HB0.out] at HV
 rw [HN.out] at hup
 clear hz hn hT HB0
 go_enter Tryz.func100,Tryz.ntmps100
 go_wp2_with fail
 refine (plain_any _).mono ?_
 rintro e W1 ⟨v1,rfl,hb1,hk1⟩
 have HK1:=Lib.hid hk1
 have HB1:=Lib.hid hb1
 clear hk1 hb1
 go_wp2_with fail
 refine (HU.out (i+1) _ v1 isPlain W1 (by omega) (by omega) HB1.out HK1.out).mono ?_
 rintro e W2 ⟨rfl,hb2⟩
 have HB2:=Lib.hid (HB1.out.trans (hb2.mono HB1.out.size))
 clear hb2
 generalize runTo zs isPlain (i+1)=E at hlo hup HV ⊢
 go_wp2_with fail
 refine (quote_any _).mono ?_
 rintro e W3 ⟨v3,rfl,hb3,hk3⟩
 have HK3:=Lib.hid hk3
 have HB3:=Lib.hid (HB2.out.trans (hb3.mono HB2.out.size))
 clear hk3 hb3
 go_wp2_with fail
 refine (HR.out E _ v3 (isC 34) W3 rfl HB3.out HK3.out).mono ?_
 rintro e W4 ⟨rfl,hb4⟩
 have HB4:=Lib.hid (HB3.out.trans (hb4.mono HB3.out.size))
 clear hb4
 cases h1:stA zs (isC 34) E
 · have HV':=Lib.hid (HV.out.trans (if_pos (by rw [h1];rfl)))
   clear h1
   go_wp2
   go_ret2
   exact ⟨by rw [HV'.out];rfl,HB4.out⟩
 · have hlt:=stA_lt h1
   rw [HN.out] at hlt
   have hE:¬cap=i+1:=by omega
   have H1:=Lib.hid h1
   clear h1
   go_wp2_with fail
   refine (HQ.out _ E _ W4 HB4.out hlo hlt rfl (by omega)).mono ?_
   rintro e W5 ⟨rfl,hb5⟩
   have HB5:=Lib.hid (HB4.out.trans (hb5.mono HB4.out.size))
   clear hb5
   have HO:Hid (okU (sub zs (i+1) E)=decide (u8At (sub zs (i+1) E) 0<0)):=rfl
   generalize u8At (sub zs (i+1) E) 0=u at HO ⊢
   by_cases hu:u<0
   · have HV':=Lib.hid (HV.out.trans (if_neg (by rw [H1.out,HO.out,decide_eq_true hu];decide)))
     go_wp2
     go_ret2
     exact ⟨by rw [HV'.out];rfl,HB5.out⟩
   · have HV':=Lib.hid (HV.out.trans (if_pos (by rw [H1.out,HO.out,decide_eq_false hu];rfl)))
     go_wp2
     go_ret2
     exact ⟨by rw [HV'.out];rfl,HB5.out⟩
end Go.Proofs.YtokhnoogkdlidaaGreatDoor
