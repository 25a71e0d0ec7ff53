/-
  The document's own reading of tables: a struct's fields, plain. Conditions: those that each theorem names.
-/
import Derived.Test.YtcfjjocmiheiaaaDoorPkD9
import Derived.Test.YtcfjjocmiheiaaaDoorPkD13
import Derived.Test.YtcfjjocmiheiaaaDoorPkD30
import Derived.Test.YtcfjjocmiheiaaaDoorPkD34
namespace Go.Proofs.YtcfjjocmiheiaaaDoor
open Go.ChangeShapes Go.WideShapes Go.ChangeAt Go.RowKit Go.Shelf
theorem rec_fields {ss:List (SRec × Value)}{r:Nat}(hr:r<ss.length):(recC (sRecs ss) (r:Int)).fields=ss[r].1.fields.map cF:=by
 unfold recC sRecs crow
 rw [Int.toNat_natCast,List.getD,List.getElem?_map,List.getElem?_map,List.getElem?_eq_getElem hr]
 rfl
theorem field_eq {zs:List Int}{f:NextD}{xs:List SFld}{to:Int}{t:TabZ}{j:Nat}(hj:j<xs.length)(l:Int):fieldZ zs f (xs.map cF) to t j l=if offZ zs t j=0 then some (numV xs[j].dflt,l) else if offZ zs t j<4∨t.own<offZ zs t j+inlC xs[j].kind (xs[j].lists:Nat) then none else f xs[j].kind (xs[j].ref:Nat) (xs[j].lists:Nat) (to+offZ zs t j) l:=by
 unfold fieldZ
 rw [List.getElem?_map,List.getElem?_eq_getElem hj]
 rfl
theorem off_in {zs:List Int}{own la size:Int}{j:Nat}(h0:0≤la)(h:4+2 * (j:Int)+2≤size)(hin:inZ (lenZ zs) (la+4+2 * (j:Int)) 2=true):offZ zs ⟨own,la,size⟩ j=ldO zs (la+4+2 * (j:Int)) 2:=by
 unfold offZ ldO
 rw [if_pos (show 4+2 * (j:Int)<size by omega),if_pos (show inZ (lenZ zs) (la+4+2 * (j:Int)) ((2:Nat):Int)=true from hin)]
 show leAt zs (la.toNat+4+2 * j) 2=leAt zs (la+4+2 * (j:Int)).toNat 2
 rw [show (la+4+2 * (j:Int)).toNat=la.toNat+4+2 * j by omega]
theorem off_out {zs:List Int}{own la size:Int}{j:Nat}(hev:size % 2=0)(h:¬4+2 * (j:Int)+2≤size):offZ zs ⟨own,la,size⟩ j=0:=by
 unfold offZ
 exact if_neg (show ¬4+2 * (j:Int)<size by omega)
def DTtAt (w:World)(R O:Nat)(rk:Nat)(sv ev:Value)(root:Int)(bp:Option Addr)(bc:Nat)(zs:List Int)(g:Nat→Int→Option (PV × Int))(left1:Int)(n:Nat)(x:Value)(wr:World):Prop:=∃ (A:Option Addr) (cap:Nat) (l:List KV) (rc:Int) (bad:Bool),l.length≤n∧x=.int .i64 l.length ∧
 wr.heap[O]?=some (.cells #[.int .u64 0,.slice none 0 0,.slice A l.length cap,.bool true] 36 (0,0))∧wr.ownsRow (O+1) 36 4 (.slice A l.length cap) l.length (kvsCells l)∧wr.heap[R]?=some (.cells #[.int .u64 0,.slice none 0 0,.slice none 0 0,.bool false] 36 (0,0)) ∧
 Exw rk rk w.heap.size w wr∧RdSt wr rk sv ev root bp bc zs rc bad ∧
 ((bad=false∧∃ l',0≤l'∧l'≤lenZ zs∧rc=lenZ zs-l'∧seqD g left1 l.length=some (l.map KV.v,l')∧KidsIn (rowS (O+1) (.slice A l.length cap)) wr l)∨(bad=true∧0≤rc∧rc≤1000000000000∧seqD g left1 n=none))
end Go.Proofs.YtcfjjocmiheiaaaDoor
