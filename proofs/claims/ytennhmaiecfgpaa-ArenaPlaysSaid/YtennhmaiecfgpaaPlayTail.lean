/-
  What follows the switch in a round of ArenaPlays: the answers agree, the length and all bytes are the law's own, and what Bytes handed out is turned. Conditions: those that each theorem names.
-/
import Derived.Test.YtennhmaiecfgpaaPlayXor
import Derived.Deep.Cut
import Derived.Deep.CutBlock
namespace Go.Proofs.Ytennhmaiecfgpaa
open Go.ChangeShapes Go.WideShapes Go.ChangeAt Go.RowKit

theorem OwnV.str {w : World} {base : Nat} {A : Option Addr} {cap : Nat} {zs : List Int} (h : OwnV w base 5 A cap zs) :
    (convert 26 9 (.slice A zs.length cap)).run Try.prog w = .ok (.string (strOfNums zs)) w := by
  rcases h.nil_or with ⟨rfl, rfl, rfl⟩ | ⟨g, rfl, hr⟩
  · exact conv_zero w 26 5 9 Try.underlying26 Try.underlying5 Try.underlying9 none 0
  · exact hr.str (P := Try.prog) 26 9 Try.underlying26 Try.underlying5 Try.underlying9
section
variable {Q : Exit → Act → World → Prop} {c : Act} {w : World} {most : Int} {a : Option Addr} {len cap base ar k x : Nat} {r L Kd N S U p : Int} {q : Bool} {D : Option Addr} {dl dc : Nat} {zs : List Int} {over : Bool} {B : Option Addr} {cb : Nat} {A : Option Addr} {ca : Nat}
set_option maxRecDepth 100000 in
set_option maxHeartbeats 400000 in
theorem tail_wp (hc : Fr2 most a len cap base ar k x r (.int .i64 p) (.bool q) c) (h : Rnd w base ar x L Kd N S U D dl dc zs over B cb zs over A ca p q) (hzs : zs.length ≤ 2000000)
    (hQ : ∀ c' w', Fr0 most a len cap base ar k c' → Rnd w' base ar x L Kd N S U D dl dc zs over B cb zs over A ca p q → Below base w w' → Q .normal c' w') :
    Code.wp Try.prog playTail Q c w := by
  obtain ⟨u, rfl⟩ := fr2_lit hc
  have HQ := Lib.hid hQ
  have H := Lib.hid h
  have cW := cell_of_one h.hw
  have cI := cell_of_one h.hi
  have cV := cell_of_one h.hv
  have cB := cell_of_one h.hb
  have HO := Lib.hid (fun n => over_any (h.arena.below (bel_drewN (Below.refl _ _) n)))
  have HLn := Lib.hid (fun n => len_any (h.arena.below (bel_drewN (Below.refl _ _) n)))
  clear hc hQ h
  conv => arg 2; whnf
  go_wp2_with fail
  go_quiet (first | (go_at_call 17; exact quiet_same (HO.out _)) | (go_at_call 18; exact quiet_same (HLn.out _)))
  have hb1 := bel_drewN (Below.refl w.heap.size w) nq
  have h1 := H.out.below hb1
  have HB1 := Lib.hid (hb1.mono (show base ≤ w.heap.size by have := H.out.o1; have := H.out.o2; have := H.out.o3; omega))
  have H1 := Lib.hid h1
  have cV1 := cell_of_one h1.hv
  have cB1 := cell_of_one h1.hb
  clear hb1 h1 HO HLn
  generalize w.drewN nq = w1 at *
  cases over with
  | true =>
    go_wp2_with fail
    refine (bytes_no H1.out.arena).mono ?_
    rintro e w2 ⟨rfl, rfl⟩
    go_wp2_with fail
    refine wp_loop_once ?_
    go_wp2
    exact HQ.out _ _ ⟨rfl, rfl, rfl, rfl, rfl, rfl, rfl, rfl, rfl⟩ H1.out HB1.out
  | false =>
    go_wp2_with fail
    refine (bytes_yes H1.out.arena).mono ?_
    rintro e w2 ⟨rfl, ho2, hb2⟩
    have h2 := H1.out.below hb2
    have s1 := ho2.str (P := Try.prog) 26 9 Try.underlying26 Try.underlying5 Try.underlying9
    have s2 := h2.own.str
    generalize strOfNums zs = T at s1 s2
    have H2 := Lib.hid h2
    have HO2 := Lib.hid ho2
    have HBW := Lib.hid hb2
    have HB2 := Lib.hid (HB1.out.trans (hb2.mono (show base ≤ w1.heap.size by have := H1.out.o1; have := H1.out.o2; have := H1.out.o3; omega)))
    have cV2 := cell_of_one h2.hv
    have cB2 := cell_of_one h2.hb
    clear ho2 hb2 h2
    go_upto_block 3 with fail
    refine xor_wp (k := k) (y := w1.heap.size) (n := zs.length) ⟨rfl, rfl, rfl, rfl, rfl, rfl, rfl, rfl, rfl, rfl, rfl, rfl⟩ HO2.out (by omega) (fun c' w' hf hb => HQ.out c' w' hf (H1.out.below ?_) (HB1.out.trans ?_))
    · exact HBW.out.trans hb
    · exact (HBW.out.trans hb).mono (show base ≤ w1.heap.size by have := H1.out.o1; have := H1.out.o2; have := H1.out.o3; omega)
end
end Go.Proofs.Ytennhmaiecfgpaa
