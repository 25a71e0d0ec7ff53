/-
  Plain facts on what is a schema: names, types, defaults; a schema whose numbers may be any, and how it lies in memory. No run of the program stands in this text but in the names of types. Conditions: those that each theorem names.
-/
import Derived.Test.YtokhnoogkdlidaaGreatDoorPkP3
import Derived.Test.YtokhnoogkdlidaaGreatDoorPkP4
import Derived.Test.YtokhnoogkdlidaaGreatDoorPkP8
import Derived.Test.YtokhnoogkdlidaaGreatDoorPkP12
import Derived.Test.YtokhnoogkdlidaaGreatDoorPkP13
import Derived.Test.YtokhnoogkdlidaaGreatDoorPkP18
import Derived.Test.YtokhnoogkdlidaaGreatDoorPkP20
import Derived.Test.YtokhnoogkdlidaaGreatDoorPkP21
import Derived.Lib.ConvBytes
import Derived.Lib.AtoiErrMem
namespace Go.Proofs.YtokhnoogkdlidaaGreatDoor
open Go.ChangeShapes Go.WideShapes Go.ChangeAt Go.RowKit Go.Shelf
theorem bytes_of_bytesWorld (w:World)(s:ByteArray):Bytes (Lib.bytesWorld w 5 s) (some ⟨w.heap.size,0,none⟩) (bts s):=by
 refine ⟨bts_bd s,fun _=>⟨w.heap.size,0,rfl,by rw [Lib.bytesWorld_size];omega,fun i hi=>?_⟩⟩
 rw [bts_length] at hi
 rw [Nat.zero_add,Lib.bytesWorld_cell w _ s i hi]
 simp [bts,List.getD,hi]
theorem lexTokens_long (s sg:ByteArray)(w:World)(hs:s.size≤9223372036854775807)(h:8192<s.size) :
  Calls Tryz.prog 46 #[.string s,.string sg] w fun e w'=>e=.returned (.tuple #[.slice none 0 0,.agg #[.int .i64 16,.int .i64 8192]])∧Below w.heap.size w w':=by
 go_enter Tryz.func46,Tryz.ntmps46
 go_wp2
 exact bodyPost_ret (v:=.tuple #[.slice none 0 0,.agg #[.int .i64 16,.int .i64 8192]]) (by simp [results,Tryz.results46,go_sem]) rfl ⟨rfl,(Below.refl _ _).alloc (Nat.le_refl _) _⟩
def lexFrom (s sg:ByteArray)(j:Nat)(l:List Tok):List Tok × Int × Nat:=toksF okU (amg sg) (bts s) (2049-l.length) j l
def LexPost (base:Nat)(w:World)(r:List Tok × Int × Nat)(e:Ending)(w':World):Prop:=
 ∃ v,e=.returned (.tuple #[v,.agg #[.int .i64 r.2.1,.int .i64 (r.2.2:Nat)]])∧OwnT w' base v r.1∧Below base w w'
def FltBlk (g:Nat)(W:World):Prop:=W.heap[g]?=some (.cells #[.int .i64 0,.int .i64 0] 38 (0,0))
theorem FltBlk.facts {g:Nat}{W:World}(h:FltBlk g W):W.cell? ⟨g,0,none⟩=some (.int .i64 0)∧W.cell? ⟨g,1,none⟩=some (.int .i64 0)∧W.frozen? ⟨g,0,none⟩=false∧W.frozen? ⟨g,1,none⟩=false:=by
 refine ⟨?_,?_,?_,?_⟩
 · rw [cell_of_row W g 0 _ _ (0,0) h];rfl
 · rw [cell_of_row W g 1 _ _ (0,0) h];rfl
 · simp [World.frozen?,show W.heap[g]?=_ from h]
 · simp [World.frozen?,show W.heap[g]?=_ from h]
theorem FltBlk.below {g B:Nat}{W W':World}(h:FltBlk g W)(hb:Below B W W')(hg:g<B):FltBlk g W':=(hb.block g hg).trans h
theorem FltBlk.put {g:Nat}{W:World}(h:FltBlk g W)(hg:g<W.heap.size)(x y:Value)(o:Obj) :
  ((((W.setCell ⟨g,0,none⟩ x).setCell ⟨g,1,none⟩ y).alloc o).cell? ⟨g,0,none⟩=some x)∧((((W.setCell ⟨g,0,none⟩ x).setCell ⟨g,1,none⟩ y).alloc o).cell? ⟨g,1,none⟩=some y):=by
 obtain ⟨g0,g1,_,_⟩:=h.facts
 constructor
 · rw [World.cell?_alloc_lt _ _ _ (by simpa [World.setCell] using hg)]
   simp [g0,go_sem]
 · rw [World.cell?_alloc_lt _ _ _ (by simpa [World.setCell] using hg)]
   simp [g1,go_sem]
theorem lexPost_end {base B:Nat}{w w':World}{r:List Tok × Int × Nat}{v:Value}{l:List Tok}(hr:r=(l,0,0))(ho:OwnT w' B v l)(hB:base≤B)(hb:Below base w w'):LexPost base w r (.returned (.tuple #[v,.agg #[.int .i64 0,.int .i64 0]])) w':=by
 subst hr
 exact ⟨_,rfl,ho.base_le hB,hb⟩
theorem lexPost_fault {base:Nat}{w w':World}{r:List Tok × Int × Nat}{code:Int}{j:Nat}(hr:r=([],code,j))(hb:Below base w w'):LexPost base w r (.returned (.tuple #[.slice none 0 0,.agg #[.int .i64 code,.int .i64 (j:Nat)]])) w':=by
 subst hr
 exact ⟨_,rfl,ownT_nil _ _,hb⟩
theorem below_bytesWorld {B:Nat}{w W:World}(h:Below B w W)(hB:B≤W.heap.size)(e:TypeId)(s:ByteArray):Below B w (Lib.bytesWorld W e s):=h.trans ((Lib.bytesWorld_below W e s).mono hB)
theorem lexFrom_many {s sg:ByteArray}{j:Nat}{l:List Tok}(h:l.length=2048):lexFrom s sg j l=([],16,gap (bts s) j):=by
 unfold lexFrom
 rw [h]
 simp only [toksF]
 rw [if_pos h]
theorem lexFrom_step {s sg:ByteArray}{j:Nat}{l:List Tok}(h:l.length<2048):lexFrom s sg j l =
  match tok okU (amg sg) (bts s) (gap (bts s) j) with
  | none=>([],10,gap (bts s) j)
  | some (t,e)=>if t.kind=0 then (l++[t],0,0) else lexFrom s sg e (l++[t]):=by
 unfold lexFrom
 rw [show 2049-l.length=(2048-l.length)+1 from by omega]
 simp only [toksF]
 rw [if_neg (by omega)]
 simp only [List.length_append,List.length_singleton]
 rw [show 2049-(l.length+1)=2048-l.length from by omega]
 rfl
set_option maxHeartbeats 800000 in
set_option maxRecDepth 100000 in
theorem lexTokens_short (s sg:ByteArray)(w:World)(hT:Tabs w)(h:s.size≤8192) :
  Calls Tryz.prog 46 #[.string s,.string sg] w (LexPost w.heap.size w (lexFrom s sg 0 [])):=by
 have kc:=fun W=>Lib.run_convert_string_bytes (P:=Tryz.prog) W 9 22 5 s Tryz.underlying9 Tryz.underlying22 Tryz.underlying5
 have hd:decide ((8192:Int)<(s.size:Int))=false:=by simp;omega
 go_enter Tryz.func46,Tryz.ntmps46
 go_wp2
 have hcap:=grownCap_ge (w.alloc (.cells #[.int .i64 0,.int .i64 0] 38)) s.size 0 5
 have hb0:Below w.heap.size w (Lib.bytesWorld (w.alloc (.cells #[.int .i64 0,.int .i64 0] 38)) 5 s):=below_bytesWorld ((Below.refl _ _).alloc (Nat.le_refl _) _) (by simp) _ _
 have hz0:=bytes_of_bytesWorld (w.alloc (.cells #[.int .i64 0,.int .i64 0] 38)) s
 have hf0:FltBlk w.heap.size (Lib.bytesWorld (w.alloc (.cells #[.int .i64 0,.int .i64 0] 38)) 5 s):=by
  unfold FltBlk
  rw [Lib.bytesWorld_at_old _ _ _ _ (by simp)]
  exact heap_alloc_new w _
 have hsz:w.heap.size<(Lib.bytesWorld (w.alloc (.cells #[.int .i64 0,.int .i64 0] 38)) 5 s).heap.size:=by rw [Lib.bytesWorld_size];simp;omega
 simp only [World.size_alloc] at hz0
 generalize grownCap (w.alloc (.cells #[.int .i64 0,.int .i64 0] 38)) s.size 0 5 = cap at hcap ⊢
 generalize Lib.bytesWorld (w.alloc (.cells #[.int .i64 0,.int .i64 0] 38)) 5 s=W0 at hb0 hz0 hf0 hsz ⊢
 have HB0:=Lib.hid hb0
 have HF0:=Lib.hid hf0
 have HGAP:=Lib.hid (fun j W (hb:Below W0.heap.size W0 W) hj=>gap_any (some ⟨w.heap.size+1,0,none⟩) s.size cap j j (bts s) W rfl (hz0.below (Nat.le_refl _) hb) (bts_length s) hcap (by omega) hj)
 have HTOK:=Lib.hid (fun j v W (hb:Below W0.heap.size W0 W) hj hk=>token_any (some ⟨w.heap.size+1,0,none⟩) s.size cap j j v (amg sg) (bts s) W rfl (Tabs.below hT (Nat.le_refl _) (hb0.trans (hb.mono hb0.size))) (hz0.below (Nat.le_refl _) hb) (bts_length s) (by omega) hj hcap hk)
 clear hb0 hf0 hz0 kc hT hcap hd
 go_loopw [7,8] (fun lv at' wr=>Below W0.heap.size W0 wr∧∃ (j:Nat) (l:List Tok),j≤s.size∧at'=.int .i64 j∧OwnT wr W0.heap.size lv l∧l.length≤2048∧lexFrom s sg 0 []=lexFrom s sg j l) (fun lv _ _=>2048-lenOf lv)
 case atStart=>exact ⟨Below.refl _ _,0,[],Nat.zero_le _,rfl,ownT_nil _ _,by decide,rfl⟩
 case round =>
  obtain ⟨hb,j,l,hj,rfl,ho,hll,hr⟩:=hrel
  obtain ⟨a,c,rfl⟩:=ho.form
  have HB:=Lib.hid hb
  have HJ:=Lib.hid hr
  have HO:=Lib.hid ho
  have hg1:=gap_le (bts s) j (by rw [bts_length];exact hj)
  rw [bts_length] at hg1
  clear hb hr ho
  by_cases h2:l.length=2048
  · have HM:=Lib.hid (lexFrom_many (s:=s) (sg:=sg) (j:=j) h2)
    have HL:=Lib.hid h2
    go_wp2_with fail
    refine (HGAP.out j _ HB.out hj).mono ?_
    rintro e W1 ⟨rfl,hb1⟩
    have HB1:=Lib.hid (HB.out.trans (hb1.mono HB.out.size))
    clear hb1
    obtain ⟨g0,g1,f0,f1⟩:=(HF0.out.below HB1.out hsz).facts
    have t2:((l.length:Int)==2048)=true:=by simp;omega
    clear h2
    go_wp2
    exact bodyPost_ret (v:=.tuple #[.slice none 0 0,.agg #[.int .i64 16,.int .i64 (gap (bts s) j:Nat)]]) (by simp [results,Tryz.results46,go_sem,g0,g1]) rfl
     (lexPost_fault (HJ.out.trans HM.out) (((HB0.out.trans (HB1.out.mono HB0.out.size)).setCell (Nat.le_refl _) _).setCell (Nat.le_refl _) _))
  · have HM:=Lib.hid (lexFrom_step (s:=s) (sg:=sg) (j:=j) (l:=l) (by omega))
    have t2:((l.length:Int)==2048)=false:=by simp;omega
    go_wp2_with fail
    refine (HGAP.out j _ HB.out hj).mono ?_
    rintro e W1 ⟨rfl,hb1⟩
    have HB1:=Lib.hid (HB.out.trans (hb1.mono HB.out.size))
    have HO1:=Lib.hid (HO.out.below hb1 (Nat.le_refl _))
    clear hb1
    generalize gap (bts s) j=k at hg1 HM ⊢
    go_wp2_with fail
    refine (among_any sg _).mono ?_
    rintro e W2 ⟨v2,rfl,hb2,hk2⟩
    have HK2:=Lib.hid hk2
    have HB2:=Lib.hid (HB1.out.trans (hb2.mono HB1.out.size))
    have HO2:=Lib.hid (HO1.out.below hb2 (Nat.le_refl _))
    clear hb2 hk2
    go_wp2_with fail
    refine (HTOK.out k v2 _ HB2.out hg1 HK2.out).mono ?_
    rintro e W3 ⟨rfl,hb3⟩
    have HB3:=Lib.hid (HB2.out.trans (hb3.mono HB2.out.size))
    have HO3:=Lib.hid (HO2.out.below hb3 (Nat.le_refl _))
    clear hb3
    generalize hq:tok okU (amg sg) (bts s) k=q at HM ⊢
    obtain _|⟨t,e2⟩:=q
    · clear hq
      obtain ⟨g0,g1,f0,f1⟩:=(HF0.out.below HB3.out hsz).facts
      have hs3:w.heap.size<W3.heap.size:=Nat.lt_of_lt_of_le hsz HB3.out.size
      simp only [tokVal]
      go_wp2
      obtain ⟨r0,r1⟩:=(HF0.out.below HB3.out hsz).put hs3 (.int .i64 10) (.int .i64 (k:Nat)) (.cells #[.int .i64 0,.string ByteArray.empty,.int .i64 0] 97)
      exact bodyPost_ret (v:=.tuple #[.slice none 0 0,.agg #[.int .i64 10,.int .i64 (k:Nat)]]) (by simp [results,Tryz.results46,go_sem,r0,r1]) rfl
       (lexPost_fault (HJ.out.trans HM.out) (((((HB0.out.trans (HB3.out.mono HB0.out.size)).setCell (Nat.le_refl _) _).setCell (Nat.le_refl _) _)).alloc (by simpa [World.setCell] using Nat.le_of_lt hs3) _))
    · have HQ:=Lib.hid hq
      have he2:=tok_le (by rw [bts_length];exact hg1) hq
      rw [bts_length] at he2
      obtain ⟨i0,hi0,hz0,hz1,hz2⟩:=info_parts tok_info
      have I1:=Lib.hid hi0
      have I2:=Lib.hid hz0
      have I3:=Lib.hid hz1
      have I4:=Lib.hid hz2
      have hs3:w.heap.size<W3.heap.size:=Nat.lt_of_lt_of_le hsz HB3.out.size
      clear hq hi0 hz0 hz1 hz2
      simp only [tokVal]
      by_cases hkd:t.kind=0
      · have tk:(t.kind==0)=true:=by simp [hkd]
        have HE:=Lib.hid (HM.out.trans (if_pos hkd))
        clear hkd
        go_wp2_with (at_builtin;refine wpList_append_own _ rfl (.tmp 39) (.tmp 41) 66 rfl W0.heap.size 97 i0 _ 3 32 Tryz.underlying66 I1.out I2.out I3.out I4.out rfl (by decide) _ l.length (toksCells l) rfl (HO3.out.below (((Below.refl W3.heap.size W3).alloc (Nat.le_refl _) _).alloc (by simp) _) (Nat.le_refl _)) ⟨W3.heap.size+1,0,none⟩ 1 1 (tokCells t) rfl rfl (tokCells_new _ t _ (by simp)) (tokCells_one t) (by unfold maxLen;omega) (by omega) (by have:=HB3.out.size;simp;omega) ?_;intro v4 W4 hown4 hg4 hx;clear hx;obtain ⟨kk,hb4⟩:=grown_new HO3.out HB3.out hg4;obtain ⟨g0,g1,f0,f1⟩:=(HF0.out.below hb4 hsz).facts;have HB4:=Lib.hid hb4;have HO4:=Lib.hid (OwnT.snoc hown4);clear hown4 hg4 hb4)
        exact bodyPost_ret (v:=.tuple #[v4,.agg #[.int .i64 0,.int .i64 0]]) (by simp [results,Tryz.results46,go_sem,g0,g1]) rfl
         (lexPost_end (HJ.out.trans HE.out) ((HO4.out.setFar hsz _).setFar hsz _) HB0.out.size (((HB0.out.trans (HB4.out.mono HB0.out.size)).setCell (Nat.le_refl _) _).setCell (Nat.le_refl _) _))
      · have tk:(t.kind==0)=false:=by simp [hkd]
        have HE:=Lib.hid (HM.out.trans (if_neg hkd))
        clear hkd
        go_wp2_with (at_builtin;refine wpList_append_own _ rfl (.tmp 39) (.tmp 41) 66 rfl W0.heap.size 97 i0 _ 3 32 Tryz.underlying66 I1.out I2.out I3.out I4.out rfl (by decide) _ l.length (toksCells l) rfl (HO3.out.below (((Below.refl W3.heap.size W3).alloc (Nat.le_refl _) _).alloc (by simp) _) (Nat.le_refl _)) ⟨W3.heap.size+1,0,none⟩ 1 1 (tokCells t) rfl rfl (tokCells_new _ t _ (by simp)) (tokCells_one t) (by unfold maxLen;omega) (by omega) (by have:=HB3.out.size;simp;omega) ?_;intro v4 W4 hown4 hg4 hx;clear hx;obtain ⟨kk,hb4⟩:=grown_new HO3.out HB3.out hg4;obtain ⟨g0,g1,f0,f1⟩:=(HF0.out.below hb4 hsz).facts;have HB4:=Lib.hid hb4;have HO4:=Lib.hid (OwnT.snoc hown4);clear hown4 hg4 hb4)
        obtain ⟨a4,c4,rfl⟩:=HO4.out.form
        go_roundw
        case rel=>exact ⟨HB4.out,e2,l++[t],he2,rfl,HO4.out,by simp;omega,HJ.out.trans HE.out⟩
        case measure=>simp [lenOf];omega
theorem lexTokens_any (s sg:ByteArray)(w:World)(hT:Tabs w)(hs:s.size≤9223372036854775807) :
  Calls Tryz.prog 46 #[.string s,.string sg] w (LexPost w.heap.size w (toks okU (amg sg) (bts s))):=by
 unfold toks
 rw [bts_length]
 by_cases h:8192<s.size
 · rw [if_pos h]
   exact (lexTokens_long s sg w hs h).mono fun e w' ⟨he,hb⟩=>by rw [he];exact lexPost_fault rfl hb
 · rw [if_neg h]
   exact lexTokens_short s sg w hT (by omega)
end Go.Proofs.YtokhnoogkdlidaaGreatDoor
namespace Go.Proofs.YtokhnoogkdlidaaGreatDoor
open Go.ChangeShapes Go.WideShapes Go.ChangeAt Go.RowKit Go.Shelf
def idlSigns:ByteArray:=⟨#[123,125,58,59,61,44,60,62]⟩
def rawL:List Tok × Int × Nat→RRaw × Int × Nat
 | (l,code,p)=>if code=0 then (match schemaL noRaw l with
  | .ok a _=>(a,0,0)
  | .no c q=>(noRaw,c,q)) else (noRaw,code,p)
def rawT (s:ByteArray):RRaw × Int × Nat:=rawL (toks okU (amg idlSigns) (bts s))
theorem chain_ends:∀ (l:List Tok),EndLast l→(∀ t ∈ l,t.kind=0→t.text=[])→Ends l
 | [],h,_=>h
 | t::r,h,ht=>by
  rcases h with ⟨h1,h2⟩|⟨h1,h2⟩
  · exact .inl ⟨h1,ht t List.mem_cons_self h1,h2⟩
  · exact .inr ⟨h1,chain_ends r h2 (fun u hu=>ht u (List.mem_cons_of_mem _ hu))⟩
theorem toks_good {s:ByteArray}{sg:Int→Bool}{l:List Tok}{p:Nat}(h:toks okU sg (bts s)=(l,0,p)):Ends l∧l.length≤2048∧∀ t ∈ l,∀ z ∈ t.text,0≤z∧z≤255:=by
 obtain ⟨hc,hl⟩:=toks_chain h
 have ha:=chain_all (s:=s) l 0 (Nat.zero_le _) (.inr hc)
 refine ⟨chain_ends l (chain_last l 0 hc) (fun t ht h0=>?_),hl,fun t ht=>(ha t ht).2.2⟩
 rcases (ha t ht).1 with h|h|h|h|h
 · exact h.2
 all_goals omega
def ParsePost (w:World)(x:RRaw × Int × Nat)(e:Ending)(w':World):Prop:=
 ∃ ss es ts sv ev rv,e=.returned (.tuple #[.agg #[sv,ev,rv],.agg #[.int .i64 x.2.1,.int .i64 (x.2.2:Nat)]])∧x.1=rawOf ss es ts∧RawRows w.heap.size w' ss es ts sv ev rv∧Below w.heap.size w w'
theorem rows_nil (base:Nat)(W:World):RawRows base W [] [] [] (.slice none 0 0) (.slice none 0 0) (.slice none 0 0):=
 ⟨World.ownsRow_nil _ _ _ _,World.ownsRow_nil _ _ _ _,World.ownsRow_nil _ _ _ _,(fun p hp=>by cases hp),(fun p hp=>by cases hp)⟩
theorem parse_none {w w':World}{x:RRaw × Int × Nat}{code:Int}{p:Nat}(hx:x=(noRaw,code,p))(hb:Below w.heap.size w w') :
  ParsePost w x (.returned (.tuple #[.agg #[.slice none 0 0,.slice none 0 0,.slice none 0 0],.agg #[.int .i64 code,.int .i64 (p:Nat)]])) w':=by
 subst hx
 exact ⟨[],[],[],_,_,_,rfl,rfl,rows_nil _ _,hb⟩
theorem parse_start (w:World)(a b:Array Value)(s t:TypeId):Below w.heap.size w ((w.alloc (.cells a s)).alloc (.cells b t))∧((w.alloc (.cells a s)).alloc (.cells b t)).heap[w.heap.size]?=some (.cells a s (0,0))∧((w.alloc (.cells a s)).alloc (.cells b t)).heap[w.heap.size+1]?=some (.cells b t (0,0)):=by
 refine ⟨((Below.refl _ _).alloc (Nat.le_refl _) _).alloc (by simp) _,blk_alloc (heap_alloc_new w _) _,?_⟩
 have:=heap_alloc_new (w.alloc (.cells a s)) (.cells b t)
 rwa [World.size_alloc] at this
def set5 (W:World)(g:Nat)(x y z u v:Value):World:=((((W.setCell ⟨g,0,none⟩ x).setCell ⟨g,1,none⟩ y).setCell ⟨g,2,none⟩ z).setCell ⟨g+1,0,none⟩ u).setCell ⟨g+1,1,none⟩ v
structure PEnd (w:World)(x y z u v:Value)(W:World):Prop where
 raw:W.heap[w.heap.size]?=some (.cells #[x,y,z] 68 (0,0))
 flt:W.heap[w.heap.size+1]?=some (.cells #[u,v] 38 (0,0))
 bel:Below w.heap.size w W
theorem pend {w W:World}{a b c d e:Value}(hz:W.heap[w.heap.size]?=some (.cells #[a,b,c] 68 (0,0)))(hf:W.heap[w.heap.size+1]?=some (.cells #[d,e] 38 (0,0)))(hb:Below w.heap.size w W)(x y z u v:Value):PEnd w x y z u v (set5 W w.heap.size x y z u v):=by
 have h3:=blk_set3 hz x y z
 refine ⟨?_,?_,((((hb.setCell (p:=⟨w.heap.size,0,none⟩) (Nat.le_refl _) x).setCell (p:=⟨w.heap.size,1,none⟩) (Nat.le_refl _) y).setCell (p:=⟨w.heap.size,2,none⟩) (Nat.le_refl _) z).setCell (p:=⟨w.heap.size+1,0,none⟩) (Nat.le_succ _) u).setCell (p:=⟨w.heap.size+1,1,none⟩) (Nat.le_succ _) v⟩
 · exact blk_set_ne (blk_set_ne h3 (by simp only;omega) _) (by simp only;omega) _
 · exact blk_set2 (blk_set_ne (blk_set_ne (blk_set_ne hf (by simp only;omega) _) (by simp only;omega) _) (by simp only;omega) _) u v
theorem PEnd.drew {w W:World}{x y z u v:Value}(h:PEnd w x y z u v W):PEnd w x y z u v W.drew:=⟨h.raw,h.flt,h.bel.drew⟩
theorem RawRows.set5 {base:Nat}{W:World}{ss:List (RRec × Value)}{es:List (RCho × Value)}{ts:List Tok}{sv ev rv:Value}(h:RawRows base W ss es ts sv ev rv){g:Nat}(hg:g+1<base)(x y z u v:Value):RawRows base (set5 W g x y z u v) ss es ts sv ev rv:=
 ((h.exc (exc_set3 W g x y z) (by omega)).exc (exc_set _ (g+1) 0 u) hg).exc (exc_set _ (g+1) 1 v) hg
theorem RawRows.drew {base:Nat}{W:World}{ss:List (RRec × Value)}{es:List (RCho × Value)}{ts:List Tok}{sv ev rv:Value}(h:RawRows base W ss es ts sv ev rv):RawRows base W.drew ss es ts sv ev rv:=h.below (Below.refl _ _).drew
set_option maxRecDepth 100000 in
set_option maxHeartbeats 2000000 in
theorem parse_fault (s:ByteArray)(w:World)(hT:Tabs w)(hs:s.size≤9223372036854775807)(l:List Tok)(code:Int)(p:Nat)(hr:toks okU (amg idlSigns) (bts s)=(l,code,p))(hc:code≠0) :
  Calls Tryz.prog 18 #[.string s] w (ParsePost w (rawT s)):=by
 have HX:Hid (rawT s=(noRaw,code,p)):=Lib.hid (by unfold rawT;rw [hr];exact if_neg hc)
 obtain ⟨hb0,hz0,hf0⟩:=parse_start w #[.slice none 0 0,.slice none 0 0,.slice none 0 0] #[.int .i64 0,.int .i64 0] 68 38
 have HL:=Lib.hid (lexTokens_any s idlSigns _ (hT.below (Nat.le_refl _) hb0) hs)
 rw [hr] at HL
 have HB0:=Lib.hid hb0
 have HZ0:=Lib.hid hz0
 have HF0:=Lib.hid hf0
 have hlt:w.heap.size+1<_:=blk_lt hf0
 have hcz:(code != 0)=true:=bne_iff_ne.2 hc
 clear hb0 hz0 hf0 hT hr hc
 go_enter Tryz.func18,Tryz.ntmps18
 go_upto_region 1 with (fail)
 generalize ((w.alloc (.cells #[.slice none 0 0,.slice none 0 0,.slice none 0 0] 68)).alloc (.cells #[.int .i64 0,.int .i64 0] 38))=W0 at *
 go_wp2_with fail
 refine HL.out.mono ?_
 rintro e W1 ⟨v,rfl,_,hb1⟩
 have HB1:=Lib.hid (HB0.out.trans (hb1.mono (by omega)))
 have HZ1:=Lib.hid (blk_below HZ0.out hb1 (blk_lt HZ0.out))
 have HF1:=Lib.hid (blk_below HF0.out hb1 (blk_lt HF0.out))
 clear hb1
 simp only
 go_upto_region 2 with (fail)
 have HB2:=Lib.hid (HB1.out.alloc HB1.out.size (.cells #[.int .i64 code,.int .i64 (p:Nat)] 38))
 have HZ2:=Lib.hid (blk_alloc HZ1.out (.cells #[.int .i64 code,.int .i64 (p:Nat)] 38))
 have HF2:=Lib.hid (blk_alloc HF1.out (.cells #[.int .i64 code,.int .i64 (p:Nat)] 38))
 have HT2:=Lib.hid (heap_alloc_new W1 (.cells #[.int .i64 code,.int .i64 (p:Nat)] 38))
 have hlt1:w.heap.size+1<W1.heap.size:=blk_lt HF1.out
 clear HB1 HZ1 HF1
 generalize W1.alloc (.cells #[.int .i64 code,.int .i64 (p:Nat)] 38)=W2 at *
 generalize W1.heap.size=BT at *
 obtain ⟨_,t0,t1,_⟩:=blk2 HT2.out
 obtain ⟨hz,z0,z1,z2,y0,y1,y2⟩:=blk3 HZ2.out
 obtain ⟨hf,f0,f1,g0,g1⟩:=blk2 HF2.out
 go_wp2_with fail
 go_region_with (fail)
 all_goals
  go_wp2
  refine post_gen (PEnd w (.slice none 0 0) (.slice none 0 0) (.slice none 0 0) (.int .i64 code) (.int .i64 (p:Nat))) ?_ ?_
  · first
     | exact (pend HZ2.out HF2.out HB2.out _ _ _ _ _).drew
     | exact pend (w:=w) (W:=W2.drew) HZ2.out HF2.out HB2.out.drew _ _ _ _ _
  · rintro Wf ⟨e1,e2,e3⟩
    obtain ⟨_,c0,c1,c2,_⟩:=blk3 e1
    obtain ⟨_,d0,d1,_⟩:=blk2 e2
    exact bodyPost_ret (v:=.tuple #[.agg #[.slice none 0 0,.slice none 0 0,.slice none 0 0],.agg #[.int .i64 code,.int .i64 (p:Nat)]]) (by simp [results,Tryz.results18,go_sem,c0,c1,c2,d0,d1]) rfl (parse_none HX.out e3)
theorem rd_start {W:World}{g c:Nat}{l:List Tok}(hg:g<W.heap.size)(hcells:∀ k,k<l.length * 3→W.cell? ⟨g,k,none⟩=(toksCells l)[k]?)(hc:l.length≤c)(hm:c≤maxLen)(he:Ends l)(hb:∀ t ∈ l,∀ z ∈ t.text,0≤z∧z≤255) :
  Rd (W.alloc (.cells #[.slice (some ⟨g,0,none⟩) l.length c,.int .i64 0,.int .i64 0] 123)) W.heap.size g c l l (0,0):=by
 have hbel:Below W.heap.size W (W.alloc (.cells #[.slice (some ⟨g,0,none⟩) l.length c,.int .i64 0,.int .i64 0] 123)):=(Below.refl _ _).alloc (Nat.le_refl _) _
 refine ⟨?_,by rw [Nat.sub_self];rfl,Nat.le_refl _,Nat.lt_of_lt_of_le hg hbel.size,Nat.ne_of_lt hg,fun k hk=>(hbel.cell (p:=⟨g,k,none⟩) hg).trans (hcells k hk),⟨hc,hm⟩,he,hb⟩
 rw [heap_alloc_new W _,Nat.sub_self]
 rfl
set_option maxRecDepth 100000 in
set_option maxHeartbeats 2000000 in
theorem parse_good (s:ByteArray)(w:World)(hT:Tabs w)(hs:s.size≤9223372036854775807)(l:List Tok)(p:Nat)(hr:toks okU (amg idlSigns) (bts s)=(l,0,p)) :
  Calls Tryz.prog 18 #[.string s] w (ParsePost w (rawT s)):=by
 have HX:Hid (rawT s=match schemaL noRaw l with
  | .ok a _=>(a,0,0)
  | .no c q=>(noRaw,c,q)):=Lib.hid (by unfold rawT;rw [hr];rfl)
 obtain ⟨hend,hlen,hbyt⟩:=toks_good hr
 have HEND:=Lib.hid hend
 have HBYT:=Lib.hid hbyt
 obtain ⟨hb0,hz0,hf0⟩:=parse_start w #[.slice none 0 0,.slice none 0 0,.slice none 0 0] #[.int .i64 0,.int .i64 0] 68 38
 have HL:=Lib.hid (lexTokens_any s idlSigns _ (hT.below (Nat.le_refl _) hb0) hs)
 rw [hr] at HL
 have HB0:=Lib.hid hb0
 have HZ0:=Lib.hid hz0
 have HF0:=Lib.hid hf0
 have hlt:w.heap.size+1<_:=blk_lt hf0
 clear hb0 hz0 hf0 hT hr hend hbyt
 go_enter Tryz.func18,Tryz.ntmps18
 go_upto_region 1 with (fail)
 generalize ((w.alloc (.cells #[.slice none 0 0,.slice none 0 0,.slice none 0 0] 68)).alloc (.cells #[.int .i64 0,.int .i64 0] 38))=W0 at *
 go_wp2_with fail
 refine HL.out.mono ?_
 rintro e W1 ⟨v,rfl,ho,hb1⟩
 obtain ⟨g,c,rfl,hc,hgb,hg,hcells⟩:=ho.cells HEND.out.ne
 have hcm:c≤maxLen:=by
  rcases ho.2 with ⟨h,_⟩|⟨g',cap',cur,h,_,_,_,hm,_⟩
  · cases h
  · injection h with _ _ h
    subst h
    exact hm
 have HC:=Lib.hid hcells
 have HB1:=Lib.hid (HB0.out.trans (hb1.mono (by omega)))
 have HZ1:=Lib.hid (blk_below HZ0.out hb1 (blk_lt HZ0.out))
 have HF1:=Lib.hid (blk_below HF0.out hb1 (blk_lt HF0.out))
 clear hb1 ho hcells
 simp only
 go_upto_region 2 with (fail)
 have hlt1:w.heap.size+1<W1.heap.size:=blk_lt HF1.out
 have HB2:=Lib.hid (HB1.out.alloc HB1.out.size (.cells #[.int .i64 0,.int .i64 (p:Nat)] 38))
 have HZ2:=Lib.hid (blk_alloc HZ1.out (.cells #[.int .i64 0,.int .i64 (p:Nat)] 38))
 have HF2:=Lib.hid (blk_alloc HF1.out (.cells #[.int .i64 0,.int .i64 (p:Nat)] 38))
 have HT2:=Lib.hid (heap_alloc_new W1 (.cells #[.int .i64 0,.int .i64 (p:Nat)] 38))
 have HC2:=Lib.hid (show ∀ k,k<l.length * 3→(W1.alloc (.cells #[.int .i64 0,.int .i64 (p:Nat)] 38)).cell? ⟨g,k,none⟩=(toksCells l)[k]? from fun k hk=>(((Below.refl _ W1).alloc (Nat.le_refl _) (.cells #[.int .i64 0,.int .i64 (p:Nat)] 38)).cell (p:=⟨g,k,none⟩) hg).trans (HC.out k hk))
 have hg2:g<(W1.alloc (.cells #[.int .i64 0,.int .i64 (p:Nat)] 38)).heap.size:=by simp;omega
 clear HB1 HZ1 HF1 HC
 generalize W1.alloc (.cells #[.int .i64 0,.int .i64 (p:Nat)] 38)=W2 at *
 generalize W1.heap.size=BT at *
 obtain ⟨_,t0,t1,_⟩:=blk2 HT2.out
 go_upto_region 5 with (fail)
 have hlt2:w.heap.size+1<W2.heap.size:=blk_lt HF2.out
 have HRD:=Lib.hid (rd_start hg2 HC2.out hc hcm HEND.out HBYT.out)
 have HB3:=Lib.hid (HB2.out.alloc HB2.out.size (.cells #[.slice (some ⟨g,0,none⟩) l.length c,.int .i64 0,.int .i64 0] 123))
 have HZ3:=Lib.hid (blk_alloc HZ2.out (.cells #[.slice (some ⟨g,0,none⟩) l.length c,.int .i64 0,.int .i64 0] 123))
 have HF3:=Lib.hid (blk_alloc HF2.out (.cells #[.slice (some ⟨g,0,none⟩) l.length c,.int .i64 0,.int .i64 0] 123))
 clear HB2 HZ2 HF2 HC2 t0 t1
 have hR3:W2.heap.size<(W2.alloc (.cells #[.slice (some ⟨g,0,none⟩) l.length c,.int .i64 0,.int .i64 0] 123)).heap.size:=by simp
 generalize W2.alloc (.cells #[.slice (some ⟨g,0,none⟩) l.length c,.int .i64 0,.int .i64 0] 123)=W3 at *
 generalize W2.heap.size=R at *
 go_wp2_with fail
 refine (schema_any W3 R g c l l hlen HRD.out).mono ?_
 rintro e W4 hp
 have HP:=Lib.hid hp
 clear hp
 generalize schemaL noRaw l=q at *
 obtain ⟨a',r'⟩|⟨cc,pp⟩:=q
 · obtain ⟨ss,es,ts,sv,ev,rv,rfl,rfl,hrow,hrd,hx⟩:=HP.out
   obtain ⟨sa,sc,ea,ec,ra,rc,rfl,rfl,rfl⟩:=hrow.forms
   have HB4:=Lib.hid (HB3.out.trans ((hx.mono (by omega:w.heap.size≤W3.heap.size)).below (by omega)))
   have HZ4:=Lib.hid (blk_exc HZ3.out hx (by omega) (by omega))
   have HF4:=Lib.hid (blk_exc HF3.out hx (by omega) (by omega))
   have HROW:=Lib.hid hrow
   clear hrow hrd hx HP
   go_upto_region 6 with (fail)
   have hs4:w.heap.size+1<W4.heap.size:=blk_lt HF4.out
   have HB5:=Lib.hid (HB4.out.alloc HB4.out.size (.cells #[.slice sa ss.length sc,.slice ea es.length ec,.slice ra ts.length rc] 68))
   have HZ5:=Lib.hid (blk_alloc HZ4.out (.cells #[.slice sa ss.length sc,.slice ea es.length ec,.slice ra ts.length rc] 68))
   have HF5:=Lib.hid (blk_alloc HF4.out (.cells #[.slice sa ss.length sc,.slice ea es.length ec,.slice ra ts.length rc] 68))
   have HT5:=Lib.hid (heap_alloc_new W4 (.cells #[.slice sa ss.length sc,.slice ea es.length ec,.slice ra ts.length rc] 68))
   have HR5:=Lib.hid (HROW.out.below ((Below.refl _ _).alloc (Nat.le_refl _) (.cells #[.slice sa ss.length sc,.slice ea es.length ec,.slice ra ts.length rc] 68)))
   clear HB4 HZ4 HF4 HROW
   generalize W4.alloc (.cells #[.slice sa ss.length sc,.slice ea es.length ec,.slice ra ts.length rc] 68)=W5 at *
   generalize W4.heap.size=BR at *
   obtain ⟨_,t0,t1,t2,_⟩:=blk3 HT5.out
   obtain ⟨hz,z0,z1,z2,y0,y1,y2⟩:=blk3 HZ5.out
   obtain ⟨hf,f0,f1,g0,g1⟩:=blk2 HF5.out
   go_wp2
   refine post_gen (fun Wf=>PEnd w (.slice sa ss.length sc) (.slice ea es.length ec) (.slice ra ts.length rc) (.int .i64 0) (.int .i64 0) Wf∧RawRows (W3.heap.size+1) Wf ss es ts (.slice sa ss.length sc) (.slice ea es.length ec) (.slice ra ts.length rc)) ⟨?_,?_⟩ ?_
   · exact pend HZ5.out HF5.out HB5.out _ _ _ _ _
   · exact HR5.out.set5 (by omega) _ _ _ _ _
   · rintro Wf ⟨⟨e1,e2,e3⟩,e4⟩
     obtain ⟨_,c0,c1,c2,_⟩:=blk3 e1
     obtain ⟨_,d0,d1,_⟩:=blk2 e2
     rw [HX.out]
     exact bodyPost_ret (v:=.tuple #[.agg #[.slice sa ss.length sc,.slice ea es.length ec,.slice ra ts.length rc],.agg #[.int .i64 0,.int .i64 0]]) (by simp [results,Tryz.results18,go_sem,c0,c1,c2,d0,d1]) rfl ⟨ss,es,ts,_,_,_,rfl,rfl,e4.base (by omega),e3⟩
 · obtain ⟨rfl,⟨r',hrd⟩,hx⟩:=HP.out
   have HB4:=Lib.hid (HB3.out.trans ((hx.mono (by omega:w.heap.size≤W3.heap.size)).below (by omega)))
   have HZ4:=Lib.hid (blk_exc HZ3.out hx (by omega) (by omega))
   have HF4:=Lib.hid (blk_exc HF3.out hx (by omega) (by omega))
   have HRB:=Lib.hid hrd.blk
   clear hrd hx HP
   go_upto_region 6 with (fail)
   have hs4:w.heap.size+1<W4.heap.size:=blk_lt HF4.out
   have HB5:=Lib.hid (HB4.out.alloc HB4.out.size (.cells #[.slice none 0 0,.slice none 0 0,.slice none 0 0] 68))
   have HZ5:=Lib.hid (blk_alloc HZ4.out (.cells #[.slice none 0 0,.slice none 0 0,.slice none 0 0] 68))
   have HF5:=Lib.hid (blk_alloc HF4.out (.cells #[.slice none 0 0,.slice none 0 0,.slice none 0 0] 68))
   have HR5:=Lib.hid (blk_alloc HRB.out (.cells #[.slice none 0 0,.slice none 0 0,.slice none 0 0] 68))
   clear HB4 HZ4 HF4 HRB
   generalize W4.alloc (.cells #[.slice none 0 0,.slice none 0 0,.slice none 0 0] 68)=W5 at *
   obtain ⟨_,t0,t1,t2,_⟩:=blk3 HR5.out
   obtain ⟨hz,z0,z1,z2,y0,y1,y2⟩:=blk3 HZ5.out
   obtain ⟨hf,f0,f1,g0,g1⟩:=blk2 HF5.out
   go_wp2_with fail
   go_region_with (fail)
   all_goals
    go_wp2
    refine post_gen (PEnd w (.slice none 0 0) (.slice none 0 0) (.slice none 0 0) (.int .i64 cc) (.int .i64 (pp:Nat))) ?_ ?_
    · first
       | exact (pend HZ5.out HF5.out HB5.out _ _ _ _ _).drew
       | exact pend (w:=w) (W:=W5.drew) HZ5.out HF5.out HB5.out.drew _ _ _ _ _
    · rintro Wf ⟨e1,e2,e3⟩
      obtain ⟨_,c0,c1,c2,_⟩:=blk3 e1
      obtain ⟨_,d0,d1,_⟩:=blk2 e2
      exact bodyPost_ret (v:=.tuple #[.agg #[.slice none 0 0,.slice none 0 0,.slice none 0 0],.agg #[.int .i64 cc,.int .i64 (pp:Nat)]]) (by simp [results,Tryz.results18,go_sem,c0,c1,c2,d0,d1]) rfl (parse_none HX.out e3)
theorem parse_any (s:ByteArray)(w:World)(hT:Tabs w)(hs:s.size≤9223372036854775807) :
  Calls Tryz.prog 18 #[.string s] w (ParsePost w (rawT s)):=by
 obtain ⟨r,hr⟩:∃ r,toks okU (amg idlSigns) (bts s)=r:=⟨_,rfl⟩
 obtain ⟨l,code,p⟩:=r
 by_cases hc:code=0
 · subst hc
   exact parse_good s w hT hs l p hr
 · exact parse_fault s w hT hs l code p hr hc
end Go.Proofs.YtokhnoogkdlidaaGreatDoor
namespace Go.Proofs.YtokhnoogkdlidaaGreatDoor
open Go.ChangeShapes Go.WideShapes Go.ChangeAt Go.RowKit Go.Shelf
/-! ### plain -/
def aloneB (s:ByteArray)(k:Int)(x:ByteArray):Bool:=
 decide ((toks okU (amg ⟨#[]⟩) (bts s)).2.1=0)&&(decide ((toks okU (amg ⟨#[]⟩) (bts s)).1.length=2)&&decide (((toks okU (amg ⟨#[]⟩) (bts s)).1.getD 0 noTok).kind=k∧tokT ((toks okU (amg ⟨#[]⟩) (bts s)).1.getD 0 noTok)=x∧((toks okU (amg ⟨#[]⟩) (bts s)).1.getD 0 noTok).place=0))
def namedB (s:ByteArray):Bool:=decide (s.size≤40)&&aloneB s 1 s
def quoteB (s:ByteArray):ByteArray:=⟨#[34]⟩++s++⟨#[34]⟩
def labelB (s:ByteArray):Bool:=decide (0<s.size)&&(decide (s.size≤40)&&aloneB (quoteB s) 3 s)
def freeB (s:ByteArray):Bool:=namedB s && !(lookN basicN s).isSome
def typedB (ns ne k:Nat)(ref lists:Int):Bool:=
 if lists<0∨3<lists then false else if k=10 then decide (0≤ref∧ref<(ne:Int)) else if k=13 then decide (0≤ref∧ref<(ns:Int)) else decide (1≤k)&&(decide (k<13)&&decide (ref=0))
def fieldB (ns:Nat)(es:List SCho)(f:CFld):Bool:=
 labelB f.name&&(typedB ns es.length f.kind f.ref f.lists&&if numTB f.kind f.lists=true then fitsT es f.kind f.ref f.lists f.dflt else decide (f.dflt=0))
def recordB (ns:Nat)(es:List SCho)(r:CRec):Bool:=decide (1≤r.fields.length∧r.fields.length≤16)&&(r.fields.all (fieldB ns es)&&decide (dup (r.fields.map CFld.name)=none))
def choiceB (c:SCho):Bool:=decide (1≤c.names.length∧c.names.length≤32)&&(c.names.all namedB&&decide (dup c.names=none))
def namesC (ss:List CRec)(es:List SCho):List ByteArray:=es.map SCho.name++ss.map CRec.name
def checkB (S:CSch):Bool:=
 if ¬(1≤S.structs.length∧S.structs.length≤16)∨8<S.enums.length∨¬(0≤S.root∧S.root<(S.structs.length:Int)) then false else
  (namesC S.structs S.enums).all freeB&&(decide (dup (namesC S.structs S.enums)=none)&&(S.enums.all choiceB&&S.structs.all (recordB S.structs.length S.enums)))
end Go.Proofs.YtokhnoogkdlidaaGreatDoor
