/-
  An append of whatever source (a slice, nil or not; a string) onto a row of one-cell elements that the call owns: the row holds the old elements and the new ones behind them. Conditions: those that each theorem names.
-/
import Derived.WalkKit
import Derived.BigQuiet
import Derived.Laws.BytesArg
import Derived.Below
import Derived.Test.YtcfjjocmiheiaaaDoorRows
import Derived.ProofKit
import Derived.OpenShut
import Derived.ShutString
import Derived.ChangeOld
import Derived.Deep.DeepHandedRow
import Derived.Laws.AppendOwn
import Derived.Laws.AppendOwnNone
import Derived.Deep.AppendLies
import Derived.OwnWalk
import Derived.Deep.AppendSrc
import Derived.Laws.MakeOwn
namespace Go.Proofs.YtcfjjocmiheiaaaDoor
open Go.RowKit
theorem bel_drewN {B:Nat}{a w:World}(h:Below B a w)(n:Nat):Below B a (w.drewN n):=h.trans ⟨rfl,rfl,rfl,Nat.le_refl _,fun _ _=>rfl⟩
theorem quiet_same {P:Program}{f:FuncId}{args:Array Value}{w:World}{n:Nat}{v:Value}
  (h:Calls P f args (w.drewN n) fun e w'=>e=.returned v∧w.drewN n=w'):Calls P f args (w.drewN n) fun e w''=>e=.returned v∧∃ m,w''=w.drewN m:=
 h.mono fun _ _ ⟨he,hm⟩=>⟨he,n,hm.symm⟩
theorem conv_zero {P:Program}(w:World)(src e dst:TypeId)(hs:P.underlying src=some (.slice e))(he:P.underlying e=some (.int .u8))(hd:P.underlying dst=some .string)(a:Option Addr)(c:Nat) :
  (convert src dst (.slice a 0 c)).run P w=.ok (.string (strOfNums [])) w:=by
 rw [run_convert_bytes_string w src dst e a 0 c hs he hd]
 cases a with
 | none=>simp [Conv.bytesToString];rfl
 | some x =>
  have hl:(loadCells x 0).run P w=.ok (([]:List Int).map (Value.int .u8)).toArray w:=run_loadCells_list (P:=P) w x [] (fun j v hj=>by simp at hj)
  rw [run_bytesToString w x 0 c [] hl]
  simp [strOfNums]
  rfl
end Go.Proofs.YtcfjjocmiheiaaaDoor
namespace Go.Proofs.YtcfjjocmiheiaaaDoor
open Go.ChangeShapes Go.WideShapes Go.ChangeAt Go.RowKit
theorem own:ownKnob Tryd.prog.godebug=none:=by kernel_rfl
def IsRow (k:IntKind)(w:World)(a:Option Addr)(len cap:Nat)(zs:List Int):Prop:=
 len≤cap∧cap≤maxLen∧zs.length=cap∧(∀ n ∈ zs,(Lit.int k n).wf=true) ∧
 (zs≠[]→∃ b off,a=some ⟨b,off,none⟩∧b<w.heap.size∧∀ j,j<zs.length→w.cell? ⟨b,off+j,none⟩=some (.int k (zs.getD j 0)))
end Go.Proofs.YtcfjjocmiheiaaaDoor
namespace Go.Proofs.YtcfjjocmiheiaaaDoor
open Go.ChangeShapes Go.WideShapes Go.ChangeAt Go.RowKit
def SrcRow (w:World)(A:Option Addr)(m c:Nat)(news:List Value):Prop:=
 news.length=m∧(∀ u ∈ news,u.oneCell'=true)∧((A=none∧m=0∧c=0)∨∃ ad,A=some ad∧∀ j u,news[j]?=some u→w.cell? (ad.add j)=some u)
def u8s (zs:List Int):List Value:=zs.map (Value.int .u8)
theorem IsRow.src {w w':World}{a:Option Addr}{len cap:Nat}{zs:List Int}(h:IsRow .u8 w a len cap zs)(hb:Below w.heap.size w w'):SrcRow w' a len cap (u8s (zs.take len)):=by
 obtain ⟨hl,_,hz,_,hp⟩:=h
 refine ⟨by simp [u8s];omega,fun u hu=>?_,?_⟩
 · obtain ⟨z,_,rfl⟩:=List.mem_map.1 hu
   rfl
 · cases a with
   | none =>
    have h0:zs.length=0:=by
     rcases Nat.eq_zero_or_pos zs.length with h|h
     · exact h
     · obtain ⟨_,_,e,_⟩:=hp (by intro h';rw [h'] at h;simp at h)
       cases e
    exact .inl ⟨rfl,by omega,by omega⟩
   | some ad =>
    refine .inr ⟨ad,rfl,fun j u hu=>?_⟩
    have hj:j<len∧j<zs.length:=by
     have:=(List.getElem?_eq_some_iff.1 hu).1
     simp [u8s] at this
     omega
    obtain ⟨b,off,e,hlt,hc⟩:=hp (by intro h;rw [h] at hj;simp at hj)
    injection e with e
    subst e
    have h1:=(hb.cell (p:=⟨b,off+j,none⟩) hlt).trans (hc j hj.2)
    have h2:(u8s (zs.take len))[j]?=some (Value.int .u8 (zs.getD j 0)):=by
     simp [u8s,List.getD,hj.1,hj.2]
    rw [h2] at hu
    rw [Go.WideShapes.add_plain,h1]
    exact hu
def OwnB (w:World)(base:Nat)(v:Value)(zs:List Int):Prop:=
 ∃ g cap,v=.slice (some ⟨g,0,none⟩) zs.length cap∧base≤g∧g<w.heap.size∧zs.length≤cap∧cap≤maxLen∧(∀ i,i<zs.length→w.cell? ⟨g,i,none⟩=some (.int .u8 (zs.getD i 0)))∧(∀ i,w.frozen? ⟨g,i,none⟩=false)
theorem ownB_of_row {w:World}{base:Nat}{v:Value}{n:Nat}{zs:List Int}{e:TypeId}(h:w.ownsRow base e 1 v n (u8s zs))(hne:v≠.slice none 0 0):OwnB w base v zs:=by
 obtain ⟨hl,h'⟩:=h
 rcases h' with ⟨rfl,_⟩|⟨g,cap,cur,rfl,hb,hg,hn,hm,hs,ht⟩
 · exact absurd rfl hne
 · have hn':n=zs.length:=by simpa [u8s] using hl.symm
   subst hn'
   have hlt:g<w.heap.size:=by
    rcases Nat.lt_or_ge g w.heap.size with h|h
    · exact h
    · rw [Array.getElem?_eq_none h] at hg;cases hg
   refine ⟨g,cap,rfl,hb,hlt,hn,hm,fun i hi=>?_,fun i=>?_⟩
   · have h1:(cur.toList.take (zs.length * 1))[i]?=some (Value.int .u8 (zs.getD i 0)):=by
      rw [ht];simp [u8s,List.getD,hi]
     rw [Nat.mul_one,List.getElem?_take,if_pos hi] at h1
     rw [cell_of_row w g i cur e (0,0) hg]
     simpa using h1
   · simp [World.frozen?,hg]
theorem u8_info:(Tryd.prog.info? 5).map (fun i=>(i.zero,i.size,i.bytes))=some (some (.int .u8 0),1,1):=by kernel_rfl
end Go.Proofs.YtcfjjocmiheiaaaDoor
namespace Go.Proofs.YtcfjjocmiheiaaaDoor
open Go.ChangeShapes Go.WideShapes Go.ChangeAt Go.RowKit
section
variable {P:Program} (w:World)
end
theorem SrcRow.toSrc {P:Program}{w:World}{A:Option Addr}{m c:Nat}{news:List Value}{t e:TypeId}(ht:P.underlying t=some (.slice e))(h:SrcRow w A m c news):Go.Src P 1 t (.slice A m c) m news w:=by
 obtain ⟨hl,h1,hA⟩:=h
 rcases hA with ⟨rfl,rfl,rfl⟩|⟨ad,rfl,hc⟩
 · have hn:news=[]:=List.eq_nil_of_length_eq_zero hl
   subst hn
   exact Go.Src.ofNil w ht 0
 · exact Go.Src.ofSlice w ht ad m c news (by simpa using hl) hc h1
def OwnR (w:World)(base:Nat)(e:TypeId)(g n cap:Nat)(zs:List Int):Prop:=w.ownsRow base e 1 (.slice (some ⟨g,0,none⟩) n cap) n (u8s zs)
theorem OwnR.facts {w:World}{base:Nat}{e:TypeId}{g n cap:Nat}{zs:List Int}(h:OwnR w base e g n cap zs) :
  zs.length=n∧base≤g∧g<w.heap.size∧n≤cap∧cap≤maxLen∧(∀ i,i<zs.length→w.cell? ⟨g,i,none⟩=some (.int .u8 (zs.getD i 0)))∧(∀ i,w.frozen? ⟨g,i,none⟩=false):=by
 have hl:zs.length=n:=by have:=h.1;simpa [u8s] using this
 obtain ⟨g',cap',hv,h1,h2,h3,h4,h5,h6⟩:=ownB_of_row h (by intro h;cases h)
 cases hv
 exact ⟨hl,h1,h2,by omega,h4,h5,h6⟩
end Go.Proofs.YtcfjjocmiheiaaaDoor
