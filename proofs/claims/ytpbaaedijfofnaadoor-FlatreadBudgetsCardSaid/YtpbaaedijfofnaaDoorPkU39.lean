/-
  The hand's Value: of the root of a made schema it makes a value that is there and fits. Conditions: those that each theorem names.
-/
import Derived.Test.YtpbaaedijfofnaaDoorPkU8
import Derived.Test.YtpbaaedijfofnaaDoorPkU9
import Derived.Test.YtpbaaedijfofnaaDoorPkU37
import Derived.Test.YtpbaaedijfofnaaDoorPkU38
namespace Go.Proofs.YtpbaaedijfofnaaDoor
open Go.ChangeShapes Go.WideShapes Go.ChangeAt Go.RowKit Go.Shelf
structure F5 where
 a:Value
 b:Value
 c:Value
 d:Value
 e:Value
def f5Cells (x:F5):List Value:=[x.a,x.b,x.c,x.d,x.e]
def f5s (l:List F5):List Value:=l.flatMap f5Cells
def mf5 (f:CFld):F5:=⟨.int .u8 f.kind,.int .i64 f.ref,.int .i64 f.lists,.int .i64 (inlC f.kind f.lists),.int .u64 f.dflt⟩
def zero5:F5:=⟨.int .u8 0,.int .i64 0,.int .i64 0,.int .i64 0,.int .u64 0⟩
theorem f5s_mf (l:List CFld):f5s (l.map mf5)=mfldsCells l:=by
 unfold f5s mfldsCells
 rw [List.flatMap_map]
 rfl
theorem f5s_len (l:List F5):(f5s l).length=l.length * 5:=by
 induction l with
 | nil=>rfl
 | cons a r ih =>
  have e:f5s (a::r)=f5Cells a++f5s r:=rfl
  have e4:(f5Cells a).length=5:=rfl
  rw [e,List.length_append,ih,e4,List.length_cons]
  omega
theorem f5s_at (l:List F5)(k:Nat)(hk:k<l.length)(j:Nat)(hj:j<5):(f5s l)[k * 5+j]?=(f5Cells l[k])[j]?:=flat_at f5Cells 5 (fun _=>rfl) l k hk j hj
theorem f5s_set:∀ (l:List F5) (i:Nat) (q:F5),i<l.length→(((((f5s l).set (i * 5) q.a).set (i * 5+1) q.b).set (i * 5+2) q.c).set (i * 5+3) q.d).set (i * 5+4) q.e=f5s (l.set i q)
 | [],_,_,h=>absurd h (Nat.not_lt_zero _)
 | p::l,0,q,_=>rfl
 | p::l,i+1,q,h=>by
  have ih:=f5s_set l i q (by simpa using h)
  show (((((p.a::p.b::p.c::p.d::p.e::f5s l).set ((i+1) * 5) q.a).set ((i+1) * 5+1) q.b).set ((i+1) * 5+2) q.c).set ((i+1) * 5+3) q.d).set ((i+1) * 5+4) q.e=p.a::p.b::p.c::p.d::p.e::f5s (l.set i q)
  rw [show (i+1) * 5=i * 5+5 by omega,show i * 5+5+1=i * 5+1+5 by omega,show i * 5+5+2=i * 5+2+5 by omega,show i * 5+5+3=i * 5+3+5 by omega,show i * 5+5+4=i * 5+4+5 by omega]
  simp only [List.set_cons_succ]
  rw [ih]
theorem fld_info:(Tryd.prog.info? 175).map (fun i=>(i.zero,i.size,i.bytes))=some (some (.agg #[.int .u8 0,.int .i64 0,.int .i64 0,.int .i64 0,.int .u64 0]),5,40):=by kernel_rfl
theorem made_f5s (n:Nat):madeCells (Value.agg #[.int .u8 0,.int .i64 0,.int .i64 0,.int .i64 0,.int .u64 0]).cells (n * 5)=(f5s (List.replicate n zero5)).toArray:=by
 apply Array.ext'
 apply List.ext_getElem?
 intro k
 have hrow:(f5s (List.replicate n zero5)).length=n * 5:=by rw [f5s_len,List.length_replicate]
 simp only [madeCells,Array.toList_map,Array.toList_range,List.getElem?_map]
 by_cases hk:k<n * 5
 · have h1:(f5s (List.replicate n zero5))[(k / 5) * 5+k % 5]?=_:=f5s_at (List.replicate n zero5) (k / 5) (by rw [List.length_replicate];omega) (k % 5) (by omega)
   rw [show (k / 5) * 5+k % 5=k by omega,List.getElem_replicate] at h1
   rw [List.getElem?_range hk,Option.map_some,h1]
   show some ((#[Value.int .u8 0,.int .i64 0,.int .i64 0,.int .i64 0,.int .u64 0])[k % 5]!)=_
   have h4:k % 5=0∨k % 5=1∨k % 5=2∨k % 5=3∨k % 5=4:=by omega
   rcases h4 with h|h|h|h|h<;>rw [h]<;>rfl
 · rw [List.getElem?_eq_none (by rw [List.length_range];omega),List.getElem?_eq_none (by rw [hrow];omega)]
   rfl
theorem make_flds (n:Nat)(hn:n≤1000000)(W:World):(Instr.makeSlice 172 (.int .i64 (n:Int)) (.int .i64 (n:Int))).run Tryd.prog W=.ok (.slice (some ⟨W.heap.size,0,none⟩) n n) (W.alloc (.cells (f5s (List.replicate n zero5)).toArray 175)):=by
 obtain ⟨i,hi,hz,hs,hb⟩:=info_parts fld_info
 have h:=run_make W 172 175 i (.agg #[.int .u8 0,.int .i64 0,.int .i64 0,.int .i64 0,.int .u64 0]) Tryd.underlying172 hi hz .i64 .i64 n n (by omega) (Int.le_refl _) (by rw [hb];omega) (by omega)
 rw [hs,Int.toNat_natCast,made_f5s] at h
 exact h
theorem inlC_inlP (f:SFld):inlP f=inlC f.kind (f.lists:Nat):=by
 unfold inlP inlC isNumP numTB
 by_cases h1:f.lists=0
 · by_cases h2:0<kSize f.kind<;>simp [h1,h2]
 · simp [h1]
theorem take_put (xs:List CFld)(j:Nat)(hj:j<xs.length):((xs.take j).map mf5++List.replicate (xs.length-j) zero5).set j (mf5 xs[j])=(xs.take (j+1)).map mf5++List.replicate (xs.length-(j+1)) zero5:=by
 have hl:((xs.take j).map mf5).length=j:=by rw [List.length_map,List.length_take];omega
 rw [List.set_append_right _ _ (by rw [hl];exact Nat.le_refl _),hl,Nat.sub_self,show xs.length-j=(xs.length-(j+1))+1 by omega,List.replicate_succ,List.set_cons_zero,List.take_succ_eq_append_getElem hj,List.map_append,List.append_assoc]
 rfl
theorem f5_put {W:World}{K j:Nat}{l:List F5}{t:TypeId}(h:W.heap[K]?=some (.cells (f5s l).toArray t (0,0)))(hj:j<l.length)(q:F5) :
  (((((W.setCell ⟨K,j * 5,none⟩ q.a).setCell ⟨K,j * 5+1,none⟩ q.b).setCell ⟨K,j * 5+2,none⟩ q.c).setCell ⟨K,j * 5+3,none⟩ q.d).setCell ⟨K,j * 5+4,none⟩ q.e).heap[K]?=some (.cells (f5s (l.set j q)).toArray t (0,0)):=by
 have h5:=blk_set (blk_set (blk_set (blk_set (blk_set h (j * 5) q.a) (j * 5+1) q.b) (j * 5+2) q.c) (j * 5+3) q.d) (j * 5+4) q.e
 rw [h5,←f5s_set l j q hj]
 simp
end Go.Proofs.YtpbaaedijfofnaaDoor
namespace Go.Proofs.YtpbaaedijfofnaaDoor
open Go.ChangeShapes Go.WideShapes Go.ChangeAt Go.RowKit Go.Shelf
set_option maxRecDepth 100000 in
set_option maxHeartbeats 4000000 in
theorem hvalue_wt (w:World){b n bc root:Nat}{a:Option Addr}{bs:List Int}{ss:List (SRec × Value)}{es:List (SCho × Value)}{sv ev:Value}(h:SchRows b w ss es sv ev)(hm:SchM ss (es.map Prod.fst))(hr:root<ss.length)(hb:Bytes w a bs)(hn:bs.length=n)(hl:(n:Int)≤9223372036854775807)(hc:n≤bc) :
  Calls Tryd.prog 15 #[.agg #[sv,ev,.int .i64 root],.slice a n bc] w fun e w'=>(∃ (v:PV) (val:Value),e=.returned val∧IsV w' v val∧VH (newS w.heap.size) w' v val∧v.has=true∧fitsP ((crow ss).map Prod.fst) (es.map Prod.fst) 12 13 root 0 v=true∧SmallV v∧Wt v (1700 * (n+1)))∧Below w.heap.size w w':=by
 subst hn
 obtain ⟨h0,h1,h2,h3⟩:=three_start w #[sv,ev,.int .i64 root] #[.int .u64 0,.slice none 0 0,.slice none 0 0,.bool false] #[.slice a bs.length bc,.int .i64 0] 30 36 100
 have HB:=Lib.hid h0
 have HR2:=Lib.hid h2
 have HCALL:=Lib.hid (hval_any 12 (by decide) 13 root 0 0 0 0 0 ⟨#[]⟩ true b (w.heap.size+1+1) 0 bc a bs ss es sv ev root _ ⟨by decide,by decide,by decide,fun h=>absurd h (by decide),fun _=>hr⟩ hm ⟨h3,Nat.zero_le _,hb.below (Nat.le_refl _) h0,fun hne p off e=>by
   obtain ⟨b',off',e',hlt,_⟩:=hb.2 hne
   rw [e] at e'
   injection e' with e'
   injection e' with e1 _ _
   omega,hl,hc⟩ (fun W hW=>h.below (h0.trans (((hW.mono h0.size)).below (by omega)))) (by decide) (fun _ h10=>absurd h10 (by decide)))
 obtain ⟨_,s0,s1,s2,_⟩:=blk3 h1
 clear h0 h1 h2 h3 h hb hl hc hm hr
 go_enter Tryd.func15,Tryd.ntmps15
 go_upto_region 1 with (fail)
 go_wp2_with fail
 refine HCALL.out.mono ?_
 rintro e W6 ⟨v,val,i3,rfl,hvh,⟨hft,hsm⟩,hss,hi3,hs6,hx6⟩
 have hbel:Below w.heap.size w W6:=HB.out.trans ((hx6.mono HB.out.size).below (by omega))
 have hq2:=blk_exc HR2.out hx6 (blk_lt HR2.out) (by omega)
 have hsz:w.heap.size+1+1+1=(((w.alloc (.cells #[sv,ev,.int .i64 root] 30)).alloc (.cells #[.int .u64 0,.slice none 0 0,.slice none 0 0,.bool false] 36)).alloc (.cells #[.slice a bs.length bc,.int .i64 0] 100)).heap.size:=by simp
 rw [←hsz] at hvh
 obtain ⟨ba,ka,bcc,kcc,rfl,_,_,_,_,_,_,_⟩:=IsV.form hvh
 have HVH:=Lib.hid hvh
 have HFT:=Lib.hid hft
 have HSM:=Lib.hid hsm
 have HWT:Hid (Wt v (1700 * (bs.length+1))):=Lib.hid (by
  obtain ⟨m,h1,h2,_⟩:=hsm.2
  have h3:=hs6.le
  exact h1.mono (by omega))
 have HSS:=Lib.hid (hss rfl rfl rfl (by decide))
 have HBE:=Lib.hid hbel
 have HQ2:=Lib.hid hq2
 obtain ⟨_,u0,u1,u2,u3⟩:=blk4p hq2
 have p0:=blk_frozen hq2 0
 have p1:=blk_frozen hq2 1
 have p2:=blk_frozen hq2 2
 have p3:=blk_frozen hq2 3
 clear hvh hft hsm hss hi3 hs6 hx6 hbel hq2 hsz s0 s1 s2 HB HR2 HCALL
 go_wp2
 refine post_gen (fun Wf=>Wf.heap[w.heap.size+1]?=some (.cells #[.int .u64 v.num,.slice ba v.bytes.length bcc,.slice ka v.kids.length kcc,.bool v.has] 36 (0,0))∧Below w.heap.size w Wf∧VH (newS w.heap.size) Wf v (.agg #[.int .u64 v.num,.slice ba v.bytes.length bcc,.slice ka v.kids.length kcc,.bool v.has])) ⟨?_,?_,?_⟩ ?_
 · exact blk_set4 HQ2.out _ _ _ _
 · exact below_set4 HBE.out (Nat.le_succ _) _ _ _ _
 · exact vh_new HVH.out (by omega) (by simp [World.setCell]) (fun k hk hB=>set4_blk W6 (by omega) _ _ _ _)
 · rintro Wf ⟨e1,e2,e3⟩
   obtain ⟨_,d0,d1,d2,d3⟩:=blk4p e1
   exact bodyPost_ret (v:=.agg #[.int .u64 v.num,.slice ba v.bytes.length bcc,.slice ka v.kids.length kcc,.bool v.has]) (by simp [results,Tryd.results15,go_sem,d0,d1,d2,d3]) rfl ⟨⟨v,_,rfl,e3.out,e3,HSS.out,HFT.out,HSM.out.1,HWT.out⟩,e2⟩
end Go.Proofs.YtpbaaedijfofnaaDoor
