/-
  The document's own Value: of any value in memory, of a type that a schema can hold, it says what the plain function says. Conditions: those that each theorem names; the library's tables hold what the row lists.
-/
import Derived.Test.YtpbaaedijfofnaaDoorPkV5
import Derived.Test.YtpbaaedijfofnaaDoorPkV6
import Derived.Test.YtpbaaedijfofnaaDoorPkV7
import Derived.Test.YtpbaaedijfofnaaDoorPkV8
import Derived.Laws.MakeOwn
import Derived.Deep.RegionHeld3
namespace Go.Proofs.YtpbaaedijfofnaaDoor
open Go.ChangeShapes Go.WideShapes Go.ChangeAt Go.RowKit Go.Shelf
def numV (n:Nat):PV:=.mk n [] [] false
def dfltN (f:CFld):Nat:=if sortP f.kind f.lists=1 then f.dflt else 0
def cellN (n:Nat):List Value:=[.int .u64 n,.slice none 0 0,.slice none 0 0,.bool false]
def rowN (l:List Nat):List Value:=l.flatMap cellN
theorem rowN_at (l:List Nat)(k:Nat)(hk:k<l.length)(j:Nat)(hj:j<4):(rowN l)[k * 4+j]?=(cellN l[k])[j]?:=flat_at cellN 4 (fun _=>rfl) l k hk j hj
theorem rowN_len (l:List Nat):(rowN l).length=l.length * 4:=by
 induction l with
 | nil=>rfl
 | cons a r ih =>
  have e:rowN (a::r)=cellN a++rowN r:=rfl
  have e4:(cellN a).length=4:=rfl
  rw [e,List.length_append,ih,e4,List.length_cons]
  omega
theorem isV_num (w:World)(n:Nat)(h:n≤18446744073709551615):IsV w (numV n) (.agg #[.int .u64 n,.slice none 0 0,.slice none 0 0,.bool false]):=
 .mk n [] [] false none none 0 0 0 0 (fun _=>.bool false) (fun _=>.bool false) (fun _=>.bool false) (fun _=>.bool false) h (bytes_nil w) (Nat.le_refl _) (by decide) (Nat.le_refl _) (by decide) (fun h=>absurd rfl h) (fun i hi=>absurd hi (Nat.not_lt_zero i)) (fun i hi=>absurd hi (Nat.not_lt_zero i))
theorem val_info:(Tryd.prog.info? 36).map (fun i=>(i.zero,i.size,i.bytes))=some (some (.agg #[.int .u64 0,.slice none 0 0,.slice none 0 0,.bool false]),4,64):=by kernel_rfl
theorem made_vals (n:Nat):madeCells (Value.agg #[.int .u64 0,.slice none 0 0,.slice none 0 0,.bool false]).cells (n * 4)=(rowN (List.replicate n 0)).toArray:=by
 apply Array.ext'
 apply List.ext_getElem?
 intro k
 have hrow:(rowN (List.replicate n 0)).length=n * 4:=by rw [rowN_len,List.length_replicate]
 simp only [madeCells,Array.toList_map,Array.toList_range,List.getElem?_map]
 by_cases hk:k<n * 4
 · have h1:(rowN (List.replicate n 0))[(k / 4) * 4+k % 4]?=_:=rowN_at (List.replicate n 0) (k / 4) (by rw [List.length_replicate];omega) (k % 4) (by omega)
   rw [show (k / 4) * 4+k % 4=k by omega,List.getElem_replicate] at h1
   rw [List.getElem?_range hk,Option.map_some,h1]
   show some ((#[Value.int .u64 0,.slice none 0 0,.slice none 0 0,.bool false])[k % 4]!)=_
   have h4:k % 4=0∨k % 4=1∨k % 4=2∨k % 4=3:=by omega
   rcases h4 with h|h|h|h<;>rw [h]<;>rfl
 · rw [List.getElem?_eq_none (by rw [List.length_range];omega),List.getElem?_eq_none (by rw [hrow];omega)]
   rfl
theorem make_vals (n:Nat)(hn:n≤1000000)(W:World):(Instr.makeSlice 34 (.int .i64 (n:Int)) (.int .i64 (n:Int))).run Tryd.prog W=.ok (.slice (some ⟨W.heap.size,0,none⟩) n n) (W.alloc (.cells (rowN (List.replicate n 0)).toArray 36)):=by
 obtain ⟨i,hi,hz,hs,hb⟩:=info_parts val_info
 have h:=run_make W 34 36 i (.agg #[.int .u64 0,.slice none 0 0,.slice none 0 0,.bool false]) Tryd.underlying34 hi hz .i64 .i64 n n (by omega) (Int.le_refl _) (by rw [hb];omega) (by omega)
 rw [hs,Int.toNat_natCast,made_vals] at h
 exact h
theorem take_set (fs:List CFld)(j d:Nat)(hj:j<fs.length):((fs.take j).map dfltN++List.replicate (fs.length-j) 0).set j d=(fs.take j).map dfltN++d::List.replicate (fs.length-(j+1)) 0:=by
 have hl:((fs.take j).map dfltN).length=j:=by rw [List.length_map,List.length_take];omega
 rw [List.set_append_right _ _ (by rw [hl];exact Nat.le_refl _),hl,Nat.sub_self,show fs.length-j=(fs.length-(j+1))+1 by omega,List.replicate_succ,List.set_cons_zero]
end Go.Proofs.YtpbaaedijfofnaaDoor
namespace Go.Proofs.YtpbaaedijfofnaaDoor
open Go.ChangeShapes Go.WideShapes Go.ChangeAt Go.RowKit Go.Shelf
def structP (ss:List CRec)(es:List SCho)(room:Nat)(rec:Int)(ks:List PV):Bool:=
 decide (0≤rec∧rec<ss.length)&&(!decide (room=0)&&(decide (ks.length=(ss.getD rec.toNat ⟨⟨#[]⟩,[]⟩).fields.length)&&fieldsP (fitsP ss es (room-1)) (ss.getD rec.toNat ⟨⟨#[]⟩,[]⟩).fields ks))
end Go.Proofs.YtpbaaedijfofnaaDoor
namespace Go.Proofs.YtpbaaedijfofnaaDoor
open Go.ChangeShapes Go.WideShapes Go.ChangeAt Go.RowKit Go.Shelf
theorem three_start (w:World)(a b c:Array Value)(s t u:TypeId):Below w.heap.size w (((w.alloc (.cells a s)).alloc (.cells b t)).alloc (.cells c u))∧(((w.alloc (.cells a s)).alloc (.cells b t)).alloc (.cells c u)).heap[w.heap.size]?=some (.cells a s (0,0))∧(((w.alloc (.cells a s)).alloc (.cells b t)).alloc (.cells c u)).heap[w.heap.size+1]?=some (.cells b t (0,0))∧(((w.alloc (.cells a s)).alloc (.cells b t)).alloc (.cells c u)).heap[w.heap.size+1+1]?=some (.cells c u (0,0)):=by
 obtain ⟨h1,h2,h3⟩:=two_start w a b s t
 refine ⟨h1.alloc (by simp only [World.size_alloc];omega) _,blk_alloc h2 _,blk_alloc h3 _,?_⟩
 have h:=heap_alloc_new ((w.alloc (.cells a s)).alloc (.cells b t)) (.cells c u)
 rw [World.size_alloc,World.size_alloc] at h
 exact h
theorem fitsP_eq (ss:List CRec)(es:List SCho)(room k:Nat)(ref lists:Int)(v:PV):fitsP ss es room k ref lists v=(bareP (sortP k lists) v &&
  (if sortP k lists=1 then fitsT es k ref lists v.num else if sortP k lists=2 then decide (k=12)||decide (u8At v.bytes 0<0)
   else if sortP k lists=3 then v.kids.all (kidOk ss es room k ref (lists-1)) else if sortP k lists=4 then !v.has||structP ss es room ref v.kids else false)):=by
 cases room with
 | zero =>
  show fitsV1 ss es none k ref lists v=_
  unfold fitsV1
  congr 1
  have h1:decide (v.kids.length=0)=v.kids.all (kidOk ss es 0 k ref (lists-1)):=by
   cases v.kids with
   | nil=>rfl
   | cons a l=>simp [kidOk]
  have h2:structP ss es 0 ref v.kids=false:=by unfold structP;simp
  rw [h2,←h1]
 | succ r =>
  have h2:structP ss es (r+1) ref v.kids=(decide (0≤ref∧ref<ss.length)&&(decide (v.kids.length=(ss.getD ref.toNat ⟨⟨#[]⟩,[]⟩).fields.length)&&fieldsP (fitsP ss es r) (ss.getD ref.toNat ⟨⟨#[]⟩,[]⟩).fields v.kids)):=by unfold structP;simp
  show fitsV1 ss es (some (fitsP ss es r)) k ref lists v=_
  unfold fitsV1
  rw [h2]
  rfl
end Go.Proofs.YtpbaaedijfofnaaDoor
namespace Go.Proofs.YtpbaaedijfofnaaDoor
open Go.ChangeShapes Go.WideShapes Go.ChangeAt Go.RowKit Go.Shelf
theorem own_blk {w:World}{base g n size:Nat}{e:TypeId}{cs:Array Value}(hg:w.heap[g]?=some (.cells cs e (0,0)))(hb:base≤g)(hm:n≤maxLen)(hs:cs.size=n * size):w.ownsRow base e size (.slice (some ⟨g,0,none⟩) n n) n cs.toList:=
 ⟨by simpa using hs,.inr ⟨g,n,cs,rfl,hb,hg,Nat.le_refl _,hm,hs,List.take_of_length_le (by rw [Array.length_toList,hs];exact Nat.le_refl _)⟩⟩
theorem four_blk (w:World)(a b c d:Array Value)(r s t u:TypeId):Below w.heap.size w ((((w.alloc (.cells a r)).alloc (.cells b s)).alloc (.cells c t)).alloc (.cells d u)) ∧
  ((((w.alloc (.cells a r)).alloc (.cells b s)).alloc (.cells c t)).alloc (.cells d u)).heap[w.heap.size]?=some (.cells a r (0,0)) ∧
  ((((w.alloc (.cells a r)).alloc (.cells b s)).alloc (.cells c t)).alloc (.cells d u)).heap[w.heap.size+1]?=some (.cells b s (0,0)) ∧
  ((((w.alloc (.cells a r)).alloc (.cells b s)).alloc (.cells c t)).alloc (.cells d u)).heap[w.heap.size+2]?=some (.cells c t (0,0)) ∧
  ((((w.alloc (.cells a r)).alloc (.cells b s)).alloc (.cells c t)).alloc (.cells d u)).heap[w.heap.size+3]?=some (.cells d u (0,0)):=by
 obtain ⟨h1,h2,h3⟩:=two_start w a b r s
 obtain ⟨h4,h5,h6⟩:=two_start ((w.alloc (.cells a r)).alloc (.cells b s)) c d t u
 have e:((w.alloc (.cells a r)).alloc (.cells b s)).heap.size=w.heap.size+2:=by simp
 rw [e] at h5 h6
 exact ⟨h1.trans (h4.mono h1.size),blk_below h2 h4 (blk_lt h2),blk_below h3 h4 (blk_lt h3),h5,h6⟩
end Go.Proofs.YtpbaaedijfofnaaDoor
namespace Go.Proofs.YtpbaaedijfofnaaDoor
open Go.ChangeShapes Go.WideShapes Go.ChangeAt Go.RowKit Go.Shelf
theorem five_blk (w:World)(a b c d e:Array Value)(r s t u x:TypeId):Below w.heap.size w (((((w.alloc (.cells a r)).alloc (.cells b s)).alloc (.cells c t)).alloc (.cells d u)).alloc (.cells e x)) ∧
  (((((w.alloc (.cells a r)).alloc (.cells b s)).alloc (.cells c t)).alloc (.cells d u)).alloc (.cells e x)).heap[w.heap.size]?=some (.cells a r (0,0)) ∧
  (((((w.alloc (.cells a r)).alloc (.cells b s)).alloc (.cells c t)).alloc (.cells d u)).alloc (.cells e x)).heap[w.heap.size+1]?=some (.cells b s (0,0)) ∧
  (((((w.alloc (.cells a r)).alloc (.cells b s)).alloc (.cells c t)).alloc (.cells d u)).alloc (.cells e x)).heap[w.heap.size+1+1]?=some (.cells c t (0,0)) ∧
  (((((w.alloc (.cells a r)).alloc (.cells b s)).alloc (.cells c t)).alloc (.cells d u)).alloc (.cells e x)).heap[w.heap.size+1+1+1]?=some (.cells d u (0,0)) ∧
  (((((w.alloc (.cells a r)).alloc (.cells b s)).alloc (.cells c t)).alloc (.cells d u)).alloc (.cells e x)).heap[w.heap.size+1+1+1+1]?=some (.cells e x (0,0)) ∧
  w.heap.size+1+1+1+1+1=(((((w.alloc (.cells a r)).alloc (.cells b s)).alloc (.cells c t)).alloc (.cells d u)).alloc (.cells e x)).heap.size:=by
 obtain ⟨h0,h1,h2,h3,h4⟩:=four_blk w a b c d r s t u
 have hs:((((w.alloc (.cells a r)).alloc (.cells b s)).alloc (.cells c t)).alloc (.cells d u)).heap.size=w.heap.size+1+1+1+1:=by simp
 have h5:=heap_alloc_new ((((w.alloc (.cells a r)).alloc (.cells b s)).alloc (.cells c t)).alloc (.cells d u)) (.cells e x)
 rw [hs] at h5
 exact ⟨h0.alloc h0.size _,blk_alloc h1 _,blk_alloc h2 _,blk_alloc h3 _,blk_alloc h4 _,h5,by simp⟩
def set4 (w:World)(g:Nat)(x y z u:Value):World:=(((w.setCell ⟨g,0,none⟩ x).setCell ⟨g,1,none⟩ y).setCell ⟨g,2,none⟩ z).setCell ⟨g,3,none⟩ u
theorem set4_size (w:World)(g:Nat)(x y z u:Value):(set4 w g x y z u).heap.size=w.heap.size:=by simp [set4,World.setCell]
end Go.Proofs.YtpbaaedijfofnaaDoor
namespace Go.Proofs.YtpbaaedijfofnaaDoor
open Go.ChangeShapes Go.WideShapes Go.ChangeAt Go.RowKit Go.Shelf
theorem tk_cases (k:Nat)(h1:1≤k)(h2:k≤13):(k=13∧sortP k 0=4∧numTB k 0=false)∨((k=11∨k=12)∧sortP k 0=2∧numTB k 0=false)∨(k≤10∧sortP k 0=1∧numTB k 0=true):=by
 have:k=1∨k=2∨k=3∨k=4∨k=5∨k=6∨k=7∨k=8∨k=9∨k=10∨k=11∨k=12∨k=13:=by omega
 rcases this with rfl|rfl|rfl|rfl|rfl|rfl|rfl|rfl|rfl|rfl|rfl|rfl|rfl<;>simp [sortP,numTB,kSize]
end Go.Proofs.YtpbaaedijfofnaaDoor
