/-
  What a law over a made schema and a form of bytes finds: by the contracts of its callees. Conditions: those that each theorem names.
-/
import Derived.Test.YtpbaaiilfkacnaaDoorPkQ50
namespace Go.Proofs.YtpbaaiilfkacnaaDoor
open Go.ChangeShapes Go.WideShapes Go.ChangeAt Go.RowKit Go.Shelf
theorem aD6 {ss:List (bK × Value)}{es:List aX}{rt n:Nat}{v:PV}(hm:jP ss es)(hD:∀ q ∈ ss,fC es (cR q.1).fields)(hf:cZ ((fF ss).map Prod.fst) es 12 13 rt 0 v=true)(hh:v.has=true)(hw:Wt v (1700 * (n+1)))(hn:n≤30000):(tO (ss.map Prod.fst) 12 rt v).length≤140000000000:=by
 have hf':cZ ((ss.map Prod.fst).map cR) es 12 13 rt 0 v=true:=by rw [←nV];exact hf
 have h:=aDU (S:=ss.map Prod.fst) (es:=es) (fun q hq=>by obtain ⟨p,hp,rfl⟩:=rX.1 hq;exact (hm.2 p hp).1) (fun q hq=>by obtain ⟨p,hp,rfl⟩:=rX.1 hq;exact hD p hp) hf' hh hw;refine eM h ?_;clear h hf hf' hw hm hD hh;omega
theorem zX (w:World){b n bc root:Nat}{a:Option Addr}{bs:List Int}{ss:List (bK × Value)}{es:List (aX × Value)}{sv ev:Value}(h:SchRows b w ss es sv ev)(hm:jP ss (es.map Prod.fst))(hD:∀ q ∈ ss,fC (es.map Prod.fst) (cR q.1).fields)(hr:root<ss.length)(hb:Bytes w a bs)(hn:bs.length=n)(hl:n≤30000)(hc:n≤bc) :
  Calls Tryd.prog 12 #[.agg #[sv,ev,.int .i64 root],.slice a n bc] w fun e w1=>Below w.heap.size w w1∧∃ (v:PV) (val:Value),e=.returned val∧IsV w1 v val∧v.has=true∧cZ (aG ss) (es.map Prod.fst) 12 13 root 0 v=true∧(tO (ss.map Prod.fst) 12 root v).length≤140000000000∧fY v ∧
   ∀ w2,Below w1.heap.size w1 w2→Calls Tryd.prog 11 #[.agg #[sv,ev,.int .i64 root],val] w2 (sE (tO (ss.map Prod.fst) 12 root v) w2):=by
 refine (aCb w h hm hr hb hn (by omega) hc).mono ?_;rintro e w1 ⟨⟨v,val,rfl,hv,_,hh,hf,hs,hw⟩,hbel⟩;have hlen:=aD6 hm hD hf hh hw hl;exact ⟨hbel,v,val,rfl,hv,hh,hf,hlen,hs,fun w2 hw2=>aAq w2 root (h.below (hbel.trans (hw2.mono hbel.size))) hm hD v val (hv.later hw2) hf hh (by omega)⟩
theorem vA (p:dM){a0 a1 b0:Option Addr}{n0 e0 n1 c1 nb cb:Nat}(bs:List Int)(w:World)(hp:IsPlan w p a0 n0 e0 a1 n1 c1)(hb:Bytes w b0 bs)(hbn:bs.length=nb)(hbc:nb≤cb)(hT:Tabs w)(W:World)(hW:Below w.heap.size w W) :
  Calls Tryd.prog 10 #[.agg #[.slice a0 n0 e0,.slice a1 n1 c1,.int .u8 p.root,.bool p.tree]] W fun e W2=>Below W.heap.size W W2∧((∃ sa sl sc ea el ec rt,e=.returned (.tuple #[.agg #[.slice sa sl sc,.slice ea el ec,.int .i64 rt],.bool true])∧aFC b0 nb cb W2 sa sl sc ea el ec rt)∨e=.returned (.tuple #[.agg #[.slice none 0 0,.slice none 0 0,.int .i64 0],.bool false])):=by
 refine (aEk p W (hp.below hW)).mono ?_;rintro e W2 ⟨hb2,hpost⟩;have hW2:=hW.trans (hb2.mono hW.size);refine ⟨hb2,?_⟩;rcases hpost with ⟨hok,ss,es,sv,ev,rfl,hss,hes,hr⟩|⟨hno,rfl⟩
 · obtain ⟨sa,sc,ea,ec,rfl,rfl⟩:=hr.forms;have hlen:=aDc hok hss;have hn:=aCe hp;have hm:=aCX hok hn hss hes;have hrt:p.root % p.structs.length<ss.length:=by rw [hlen.2.2];exact Nat.mod_lt _ (by omega)
   refine .inl ⟨_,_,_,_,_,_,_,rfl,⟨fun hnb W3 hW3=>?_,fun W3 g n cap hW3 hbo h16 hcap=>?_⟩⟩
   · refine (zX W3 (hr.below hW3) hm (vF hss hm) hrt (hb.below bD (hW2.trans (hW3.mono hW2.size))) hbn (by omega) hbc).mono ?_;rintro e w1 ⟨hb1,v,val,rfl,hv,hh,hf,hlz,hs,henc⟩;have h4:=aCt (ss.map Prod.fst) 12 (p.root % p.structs.length) v;refine ⟨hb1,val,_,rfl,h4,hlz,fun w2 hw2=>(henc w2 hw2).mono ?_⟩;rintro e w' ⟨hb6,hrng,A,cap,rfl,hown⟩;obtain ⟨g,rfl,hge,hbo,hcap⟩:=aDT hown hrng (Nat.lt_of_lt_of_le (by decide) h4);exact ⟨hb6,g,cap,rfl,hge,hbo,hcap⟩
   · obtain ⟨ys,hyl,hyb⟩:=hbo.part 0 n (by omega);have h:=aB0 W3 (p.root % p.structs.length) (hr.below hW3) hm (vF hss hm) (aC2 hok hes) (aCn hn hss) hrt hyb (by omega) (bc:=cap) (by omega) (fun V hV=>hT.below bD ((hW2.trans (hW3.mono hW2.size)).trans (hV.mono (eM hW2.size hW3.size))));rw [hyl] at h;exact h
 · exact .inr rfl
end Go.Proofs.YtpbaaiilfkacnaaDoor
