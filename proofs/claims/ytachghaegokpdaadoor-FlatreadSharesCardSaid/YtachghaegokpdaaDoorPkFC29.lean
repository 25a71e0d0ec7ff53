/-
  The document's own reading of tables: a struct's fields, plain. Conditions: those that each theorem names.
-/
import Derived.Test.YtachghaegokpdaaDoorPkFC8
import Derived.Test.YtachghaegokpdaaDoorPkFC9
import Derived.Test.YtachghaegokpdaaDoorPkFC11
import Derived.Test.YtachghaegokpdaaDoorPkFC21
import Derived.Test.YtachghaegokpdaaDoorPkFC23
namespace Go.Proofs.YtachghaegokpdaaDoor
open Go.ChangeShapes Go.WideShapes Go.ChangeAt Go.RowKit Go.Shelf
structure F5 where
 a:Value
 b:Value
 c:Value
 d:Value
 e:Value
def f5Cells (x:F5):List Value:=[x.a,x.b,x.c,x.d,x.e]
def f5s (l:List F5):List Value:=l.flatMap f5Cells
def mf5 (f:CFld):F5:=⟨.int .u8 f.kind,.int .i64 f.ref,.int .i64 f.lists,.int .i64 (inlC f.kind f.lists),.int .u64 f.dflt⟩
def zero5:F5:=⟨.int .u8 0,.int .i64 0,.int .i64 0,.int .i64 0,.int .u64 0⟩
theorem f5s_mf (l:List CFld):f5s (l.map mf5)=mfldsCells l:=by
 unfold f5s mfldsCells
 rw [List.flatMap_map]
 rfl
theorem f5s_len (l:List F5):(f5s l).length=l.length * 5:=by
 induction l with
 | nil=>rfl
 | cons a r ih =>
  have e:f5s (a::r)=f5Cells a++f5s r:=rfl
  have e4:(f5Cells a).length=5:=rfl
  rw [e,List.length_append,ih,e4,List.length_cons]
  omega
theorem f5s_at (l:List F5)(k:Nat)(hk:k<l.length)(j:Nat)(hj:j<5):(f5s l)[k * 5+j]?=(f5Cells l[k])[j]?:=flat_at f5Cells 5 (fun _=>rfl) l k hk j hj
theorem f5s_set:∀ (l:List F5) (i:Nat) (q:F5),i<l.length→(((((f5s l).set (i * 5) q.a).set (i * 5+1) q.b).set (i * 5+2) q.c).set (i * 5+3) q.d).set (i * 5+4) q.e=f5s (l.set i q)
 | [],_,_,h=>absurd h (Nat.not_lt_zero _)
 | p::l,0,q,_=>rfl
 | p::l,i+1,q,h=>by
  have ih:=f5s_set l i q (by simpa using h)
  show (((((p.a::p.b::p.c::p.d::p.e::f5s l).set ((i+1) * 5) q.a).set ((i+1) * 5+1) q.b).set ((i+1) * 5+2) q.c).set ((i+1) * 5+3) q.d).set ((i+1) * 5+4) q.e=p.a::p.b::p.c::p.d::p.e::f5s (l.set i q)
  rw [show (i+1) * 5=i * 5+5 by omega,show i * 5+5+1=i * 5+1+5 by omega,show i * 5+5+2=i * 5+2+5 by omega,show i * 5+5+3=i * 5+3+5 by omega,show i * 5+5+4=i * 5+4+5 by omega]
  simp only [List.set_cons_succ]
  rw [ih]
theorem fld_info:(Tryd.prog.info? 168).map (fun i=>(i.zero,i.size,i.bytes))=some (some (.agg #[.int .u8 0,.int .i64 0,.int .i64 0,.int .i64 0,.int .u64 0]),5,40):=by kernel_rfl
theorem made_f5s (n:Nat):madeCells (Value.agg #[.int .u8 0,.int .i64 0,.int .i64 0,.int .i64 0,.int .u64 0]).cells (n * 5)=(f5s (List.replicate n zero5)).toArray:=by
 apply Array.ext'
 apply List.ext_getElem?
 intro k
 have hrow:(f5s (List.replicate n zero5)).length=n * 5:=by rw [f5s_len,List.length_replicate]
 simp only [madeCells,Array.toList_map,Array.toList_range,List.getElem?_map]
 by_cases hk:k<n * 5
 · have h1:(f5s (List.replicate n zero5))[(k / 5) * 5+k % 5]?=_:=f5s_at (List.replicate n zero5) (k / 5) (by rw [List.length_replicate];omega) (k % 5) (by omega)
   rw [show (k / 5) * 5+k % 5=k by omega,List.getElem_replicate] at h1
   rw [List.getElem?_range hk,Option.map_some,h1]
   show some ((#[Value.int .u8 0,.int .i64 0,.int .i64 0,.int .i64 0,.int .u64 0])[k % 5]!)=_
   have h4:k % 5=0∨k % 5=1∨k % 5=2∨k % 5=3∨k % 5=4:=by omega
   rcases h4 with h|h|h|h|h<;>rw [h]<;>rfl
 · rw [List.getElem?_eq_none (by rw [List.length_range];omega),List.getElem?_eq_none (by rw [hrow];omega)]
   rfl
theorem make_flds (n:Nat)(hn:n≤1000000)(W:World):(Instr.makeSlice 165 (.int .i64 (n:Int)) (.int .i64 (n:Int))).run Tryd.prog W=.ok (.slice (some ⟨W.heap.size,0,none⟩) n n) (W.alloc (.cells (f5s (List.replicate n zero5)).toArray 168)):=by
 obtain ⟨i,hi,hz,hs,hb⟩:=info_parts fld_info
 have h:=run_make W 165 168 i (.agg #[.int .u8 0,.int .i64 0,.int .i64 0,.int .i64 0,.int .u64 0]) Tryd.underlying165 hi hz .i64 .i64 n n (by omega) (Int.le_refl _) (by rw [hb];omega) (by omega)
 rw [hs,Int.toNat_natCast,made_f5s] at h
 exact h
theorem inlC_inlP (f:SFld):inlP f=inlC f.kind (f.lists:Nat):=by
 unfold inlP inlC isNumP numTB
 by_cases h1:f.lists=0
 · by_cases h2:0<kSize f.kind<;>simp [h1,h2]
 · simp [h1]
theorem take_put (xs:List CFld)(j:Nat)(hj:j<xs.length):((xs.take j).map mf5++List.replicate (xs.length-j) zero5).set j (mf5 xs[j])=(xs.take (j+1)).map mf5++List.replicate (xs.length-(j+1)) zero5:=by
 have hl:((xs.take j).map mf5).length=j:=by rw [List.length_map,List.length_take];omega
 rw [List.set_append_right _ _ (by rw [hl];exact Nat.le_refl _),hl,Nat.sub_self,show xs.length-j=(xs.length-(j+1))+1 by omega,List.replicate_succ,List.set_cons_zero,List.take_succ_eq_append_getElem hj,List.map_append,List.append_assoc]
 rfl
theorem f5_put {W:World}{K j:Nat}{l:List F5}{t:TypeId}(h:W.heap[K]?=some (.cells (f5s l).toArray t (0,0)))(hj:j<l.length)(q:F5) :
  (((((W.setCell ⟨K,j * 5,none⟩ q.a).setCell ⟨K,j * 5+1,none⟩ q.b).setCell ⟨K,j * 5+2,none⟩ q.c).setCell ⟨K,j * 5+3,none⟩ q.d).setCell ⟨K,j * 5+4,none⟩ q.e).heap[K]?=some (.cells (f5s (l.set j q)).toArray t (0,0)):=by
 have h5:=blk_set (blk_set (blk_set (blk_set (blk_set h (j * 5) q.a) (j * 5+1) q.b) (j * 5+2) q.c) (j * 5+3) q.d) (j * 5+4) q.e
 rw [h5,←f5s_set l j q hj]
 simp
end Go.Proofs.YtachghaegokpdaaDoor
namespace Go.Proofs.YtachghaegokpdaaDoor
open Go.ChangeShapes Go.WideShapes Go.ChangeAt Go.RowKit Go.Shelf
theorem rec_fields {ss:List (SRec × Value)}{r:Nat}(hr:r<ss.length):(recC (sRecs ss) (r:Int)).fields=ss[r].1.fields.map cF:=by
 unfold recC sRecs crow
 rw [Int.toNat_natCast,List.getD,List.getElem?_map,List.getElem?_map,List.getElem?_eq_getElem hr]
 rfl
theorem field_eq {zs:List Int}{f:NextD}{xs:List SFld}{to:Int}{t:TabZ}{j:Nat}(hj:j<xs.length)(l:Int):fieldZ zs f (xs.map cF) to t j l=if offZ zs t j=0 then some (numV xs[j].dflt,l) else if offZ zs t j<4∨t.own<offZ zs t j+inlC xs[j].kind (xs[j].lists:Nat) then none else f xs[j].kind (xs[j].ref:Nat) (xs[j].lists:Nat) (to+offZ zs t j) l:=by
 unfold fieldZ
 rw [List.getElem?_map,List.getElem?_eq_getElem hj]
 rfl
theorem off_in {zs:List Int}{own la size:Int}{j:Nat}(h0:0≤la)(h:4+2 * (j:Int)+2≤size)(hin:inZ (lenZ zs) (la+4+2 * (j:Int)) 2=true):offZ zs ⟨own,la,size⟩ j=ldO zs (la+4+2 * (j:Int)) 2:=by
 unfold offZ ldO
 rw [if_pos (show 4+2 * (j:Int)<size by omega),if_pos (show inZ (lenZ zs) (la+4+2 * (j:Int)) ((2:Nat):Int)=true from hin)]
 show leAt zs (la.toNat+4+2 * j) 2=leAt zs (la+4+2 * (j:Int)).toNat 2
 rw [show (la+4+2 * (j:Int)).toNat=la.toNat+4+2 * j by omega]
theorem off_out {zs:List Int}{own la size:Int}{j:Nat}(hev:size % 2=0)(h:¬4+2 * (j:Int)+2≤size):offZ zs ⟨own,la,size⟩ j=0:=by
 unfold offZ
 exact if_neg (show ¬4+2 * (j:Int)<size by omega)
def DTtAt (w:World)(R O:Nat)(rk:Nat)(sv ev:Value)(root:Int)(bp:Option Addr)(bc:Nat)(zs:List Int)(g:Nat→Int→Option (PV × Int))(left1:Int)(n:Nat)(x:Value)(wr:World):Prop:=∃ (A:Option Addr) (cap:Nat) (l:List KV) (rc:Int) (bad:Bool),l.length≤n∧x=.int .i64 l.length ∧
 wr.heap[O]?=some (.cells #[.int .u64 0,.slice none 0 0,.slice A l.length cap,.bool true] 49 (0,0))∧wr.ownsRow (O+1) 49 4 (.slice A l.length cap) l.length (kvsCells l)∧wr.heap[R]?=some (.cells #[.int .u64 0,.slice none 0 0,.slice none 0 0,.bool false] 49 (0,0)) ∧
 Exw rk rk w.heap.size w wr∧RdSt wr rk sv ev root bp bc zs rc bad ∧
 ((bad=false∧∃ l',0≤l'∧l'≤lenZ zs∧rc=lenZ zs-l'∧seqD g left1 l.length=some (l.map KV.v,l')∧KidsIn (rowS (O+1) (.slice A l.length cap)) wr l)∨(bad=true∧0≤rc∧rc≤1000000000000∧seqD g left1 n=none))
end Go.Proofs.YtachghaegokpdaaDoor
