/-
  The package jsonwrite's recordsOf: a schema's structs as the writer keeps them. Conditions: those that each theorem names.
-/
import Derived.Test.YtiknhkkeifemcaaGreatDoorPkN1
import Derived.Test.YtiknhkkeifemcaaGreatDoorPkN7
import Derived.Test.YtiknhkkeifemcaaGreatDoorPkN9
import Derived.Test.YtiknhkkeifemcaaGreatDoorPkN14
import Derived.Test.YtiknhkkeifemcaaGreatDoorPkN20
import Derived.Test.YtiknhkkeifemcaaGreatDoorPkN29
import Derived.Test.YtiknhkkeifemcaaGreatDoorPkN39
import Derived.RegionTactic
import Derived.Test.YtiknhkkeifemcaaGreatDoorRows
import Derived.WalkKit
import Derived.ProofKit
import Derived.OpenShut
import Derived.ShutString
import Derived.ChangeOld
import Derived.Below
import Derived.WalkLawsBesides
import Derived.WalkSpells
import Derived.Lib.Hide
import Derived.Outline
import Derived.Handy
import Derived.BigRegion
import Derived.Deep.Cut
import Derived.Deep.RegionLaw
namespace Go.Proofs.YtiknhkkeifemcaaGreatDoor
open Go.ChangeShapes Go.WideShapes Go.ChangeAt Go.RowKit

section
variable {P : Program} (w : World)
theorem step_append_run {ops : Array Oper} {o : Oper} {a : Act} {K : Act → World → Prop} {Q : Exit → Act → World → Prop} {E : Prop} (hgd : o.guard = none) (s x : Operand) (t u : TypeId)
    (ho : o.op = .call { callee := .builtin .append, args := #[s, x], argTypes := #[t, u] }) (v y v' : Value) (w' : World) (hs : a.eval s = v) (hx : a.eval x = y) (hr : (Builtin.append_ #[t, u] o.type #[v, y]).run P w = .ok v' w') (h : K (a.put o.dst v') w') :
    if Region.wanted o (yielded ops a.tmps) = true then Oper.wp P o a w K Q else E := by
  have hw : Region.wanted o (yielded ops a.tmps) = true := by simp [Region.wanted, hgd]
  rw [if_pos hw]
  unfold Oper.wp execOp
  simp only [ho, resolve, invoke, builtin, Sem.run_bind, Sem.run_pure, Result.andThen_ok, List.map_toArray, List.map_cons, List.map_nil, hs, hx, hr]
  exact h
end
end Go.Proofs.YtiknhkkeifemcaaGreatDoor
namespace Go.Proofs.YtiknhkkeifemcaaGreatDoor
open Go.ChangeShapes Go.WideShapes Go.ChangeAt Go.RowKit Go.Shelf

theorem row_othr {W W' : World} {b1 s1 n1 b s n : Nat} {e1 e : TypeId} {v1 v : Value} {x1 x : List Value} (h1 : W.ownsRow b1 e1 s1 v1 n1 x1) (hg : W.grownBy W' v1.ownBlock) (h : W.ownsRow b e s v n x) (hne : e1 ≠ e) : W'.ownsRow b e s v n x := by
  obtain ⟨hl, h'⟩ := h
  refine ⟨hl, ?_⟩
  rcases h' with h2 | ⟨g, cap, cur, hv, hb, hg2, hrest⟩
  · exact .inl h2
  · refine .inr ⟨g, cap, cur, hv, hb, (hg.block g (blk_lt hg2) (fun e => ?_)).trans hg2, hrest⟩
    rcases h1.2 with ⟨hv1, _⟩ | ⟨g1, cap1, cur1, hv1, _, hg1, _⟩
    · rw [hv1] at e; cases e
    · rw [hv1] at e
      simp only [Value.ownBlock] at e
      injection e with e
      rw [e, hg1] at hg2
      injection hg2 with hg2
      injection hg2 with _ ht _
      exact hne ht
theorem jwfld_info : (Tryz.prog.info? 147).map (fun i => (i.zero, i.size, i.bytes)) = some (some (.agg #[.string ⟨#[]⟩, .int .i64 0, .int .u8 0, .int .i64 0, .int .i64 0]), 5, 48) := by kernel_rfl
theorem ordN_eq (fs : List SFld) : ordN ((fs.map cF).map CFld.name) = ordJ fs := by
  unfold ordN ordJ
  rw [List.length_map, List.length_map]
  congr 1
  funext a b
  have hn : ∀ i, namAt ((fs.map cF).map CFld.name) i = unitsP (fs.getD i noSF).name := fun i => by
    unfold namAt
    rw [List.getD, List.getD, List.map_map, List.getElem?_map]
    cases fs[i]? <;> rfl
  unfold ltN ltJ
  rw [hn, hn]
structure RfM (B g P : Nat) (w : World) (nm : ByteArray) (fs : List SFld) (fa : Option Addr) (fc j : Nat) (lv : Value) (W : World) : Prop where
  bel : Below B w W
  bx : W.heap[B]? = some (.cells #[.string nm, .slice fa fs.length fc] 63 (0, 0))
  plc : RowN W g (ordJ fs)
  row : W.ownsRow P 147 5 lv j (((ordJ fs).take j).flatMap (jfCell fs))
  top : P ≤ W.heap.size
theorem RfM.later {B g P : Nat} {w : World} {nm : ByteArray} {fs : List SFld} {fa : Option Addr} {fc j : Nat} {lv : Value} {W W' : World} (h : RfM B g P w nm fs fa fc j lv W) (hb : Below W.heap.size W W') : RfM B g P w nm fs fa fc j lv W' :=
  ⟨h.bel.trans (hb.mono (by have := blk_lt h.bx; omega)), blk_below h.bx hb (blk_lt h.bx), (hb.block _ (blk_lt h.plc)).trans h.plc, row_keep hb h.row, Nat.le_trans h.top hb.size⟩
theorem RfM.app {B g P : Nat} {w : World} {nm : ByteArray} {fs : List SFld} {fa : Option Addr} {fc j : Nat} {lv v4 : Value} {W W8 : World} (h : RfM B g P w nm fs fa fc j lv W) (hj : j < (ordJ fs).length) (hBP : B < P) (hgP : g < P)
    (ho : W8.ownsRow P 147 5 v4 (j + 1) (((ordJ fs).take j).flatMap (jfCell fs) ++ jfCell fs (ordJ fs)[j])) (hg : W.grownBy W8 lv.ownBlock) : RfM B g P w nm fs fa fc (j + 1) v4 W8 := by
  have hlow : ∀ b, lv.ownBlock = some b → P ≤ b := fun b hb => (ownsRow_lt h.row b hb).1
  refine ⟨h.bel.grown hg (by have := h.top; omega) (fun b hb => by have := hlow b hb; omega), (hg.block _ (blk_lt h.bx) (fun e => by have := hlow _ e.symm; omega)).trans h.bx, (hg.block _ (blk_lt h.plc) (fun e => by have := hlow _ e.symm; omega)).trans h.plc, ?_, Nat.le_trans h.top hg.size⟩
  rw [List.take_succ_eq_append_getElem hj, List.flatMap_append]
  simpa using ho
def RfAt (B g P : Nat) (w : World) (nm : ByteArray) (fs : List SFld) (fa : Option Addr) (fc : Nat) (lw i : Value) (W : World) : Prop := ∃ (j : Nat) (lv : Value), j ≤ fs.length ∧ lv = lw ∧ i = .int .i64 j ∧ RfM B g P w nm fs fa fc j lv W
def RofPost (fs : List SFld) (w : World) (e : Ending) (w' : World) : Prop := ∃ lv, e = .returned lv ∧ w'.ownsRow w.heap.size 147 5 lv fs.length (jfCells fs) ∧ Below w.heap.size w w'
def NamsOk (fs : List SFld) : Prop := fs.length < 20 ∧ ∀ f ∈ fs, f.name.size ≤ 1000
theorem namAt_len (ns : List ByteArray) (h : ∀ s ∈ ns, s.size ≤ 1000) (i : Nat) : (namAt ns i).length ≤ 1000000 := by
  have hu : ∀ s : ByteArray, s.size ≤ 1000 → (unitsP s).length ≤ 1000000 := fun s hs => by
    have h1 : ∀ f pos, (runesL s f pos).length ≤ f := by
      intro f
      induction f with
      | zero => intro pos; exact Nat.le_refl _
      | succ f ih =>
        intro pos
        unfold runesL
        split
        · have := ih (pos + (Utf8.decode s pos).2); rw [List.length_cons]; omega
        · exact Nat.zero_le _
    have h2 : ∀ l : List Int, (l.flatMap unitR).length ≤ 2 * l.length := fun l => by
      induction l with
      | nil => exact Nat.le_refl _
      | cons c l ih => rw [List.flatMap_cons, List.length_append, List.length_cons]; have := unitR_le c; omega
    have h3 := h1 s.size 0
    have h4 := h2 (runesP s)
    unfold runesP at h4
    unfold unitsP runesP
    omega
  unfold namAt
  by_cases hi : i < ns.length
  · rw [List.getD, List.getElem?_eq_getElem hi]
    exact hu _ (h _ (List.getElem_mem hi))
  · rw [List.getD, List.getElem?_eq_none (by omega)]
    exact hu _ (Nat.zero_le _)
set_option maxRecDepth 100000 in
set_option maxHeartbeats 8000000 in
theorem jwrecord_of (w : World) (nm : ByteArray) (fs : List SFld) (fv : Value) (base : Nat) (h : w.ownsRow base 60 5 fv fs.length (sfldsCells fs)) (hn : NamsOk fs) :
    Calls Tryz.prog 92 #[.agg #[.string nm, fv]] w (RofPost fs w) := by
  obtain ⟨fa, fc, rfl⟩ := ownsRow_form h
  have hba := (Below.refl w.heap.size w).alloc (Nat.le_refl _) (.cells #[.string nm, .slice fa fs.length fc] 63)
  have HB := Lib.hid hba
  have HQ := Lib.hid (heap_alloc_new w (.cells #[.string nm, .slice fa fs.length fc] 63))
  have HSZ : Hid ((w.alloc (.cells #[.string nm, .slice fa fs.length fc] 63)).heap.size = w.heap.size + 1) := Lib.hid (World.size_alloc _ _)
  have HROW := Lib.hid (fun (W : World) (hb : Below w.heap.size w W) => row_keep hb h)
  have hcl : (fs.map cF).length = fs.length := List.length_map _
  have hso := sorted_any (w.alloc (.cells #[.string nm, .slice fa fs.length fc] 63)) nm (fs.map cF) (.slice fa fs.length fc) base (by rw [cflds_eq, hcl]; exact row_keep hba h) (by rw [hcl]; exact hn.1) (fun f hf => by
    obtain ⟨f2, hf2, rfl⟩ := List.mem_map.1 hf
    have := hn.2 f2 hf2
    show f2.name.size ≤ 400000
    omega) (namAt_len _ (fun s hs => by
    rw [List.map_map] at hs
    obtain ⟨f2, hf2, rfl⟩ := List.mem_map.1 hs
    exact hn.2 f2 hf2))
  rw [hcl] at hso
  have HSO := Lib.hid hso
  have HOE := Lib.hid (ordN_eq fs)
  have HLN := Lib.hid (ordJ_len fs)
  have HNO := Lib.hid hn
  have hn20 := hn.1
  clear h hba hso hcl hn
  go_enter Tryz.func92, Tryz.ntmps92
  go_upto_region 1 with (fail)
  generalize w.alloc (.cells #[.string nm, .slice fa fs.length fc] 63) = W0 at *
  obtain ⟨_, r0, r1, _⟩ := blk2 HQ.out
  go_wp2_with fail
  refine HSO.out.mono ?_
  rintro e W1 ⟨g, rfl, hg, hrn, hb1⟩
  rw [HOE.out] at hrn
  have HM : Hid (RfM w.heap.size g W1.heap.size w nm fs fa fc 0 (.slice none 0 0) W1) := Lib.hid ⟨HB.out.trans (hb1.mono HB.out.size), blk_below HQ.out hb1 (blk_lt HQ.out), hrn, World.ownsRow_nil _ _ _ _, Nat.le_refl _⟩
  have hgP : g < W1.heap.size := blk_lt hrn
  have hBP : w.heap.size < W1.heap.size := blk_lt HM.out.bx
  have hfs : fs.length ≤ 20 := by omega
  generalize hPv : W1.heap.size = P at *
  generalize hBv : w.heap.size = B at *
  clear hrn hb1 hg r0 r1 HQ HB HSO HSZ
  go_wp2_with fail
  go_loopw [3, 10] (fun lv i wr => RfAt B g P w nm fs fa fc lv i wr) (fun _ i _ => fs.length - (intOf i).toNat)
  case atStart => exact ⟨0, _, Nat.zero_le _, rfl, rfl, HM.out⟩
  case round =>
    obtain ⟨j, lv, hj, rfl, rfl, hm⟩ := hrel
    have HM2 := Lib.hid hm
    clear hm HM
    by_cases hlt : j < fs.length
    · have hji : (j : Int) < fs.length := by omega
      have hjo : j < (ordJ fs).length := by rw [HLN.out]; exact hlt
      obtain ⟨p, hp⟩ : ∃ p, (ordJ fs)[j] = p := ⟨_, rfl⟩
      have hpl : p < fs.length := ordJ_lt fs (by rw [← hp]; exact List.getElem_mem hjo)
      have hpi : (p : Int) < fs.length := by omega
      have hp0 : (0 : Int) ≤ p := by omega
      have hgp : fs.getD p noSF = fs[p] := by rw [List.getD, List.getElem?_eq_getElem hpl]; rfl
      have z0 := (HM2.out.plc.at j hjo).1
      rw [hp] at z0
      have HAPP := Lib.hid (fun (W W8 : World) (v4 : Value) (h : RfM B g P w nm fs fa fc j lv W) ho hg => h.app (v4 := v4) (W8 := W8) hjo hBP hgP ho hg)
      rw [hp] at HAPP
      obtain ⟨g2, cc, hv, hcc, hg2, hcell⟩ := row_el sfldCells 5 (fun _ => rfl) (HROW.out wr HM2.out.bel) p hpl
      obtain ⟨rfl, rfl⟩ := slice_inj hv
      have x0 : wr.cell? ⟨g2, p * 5, none⟩ = some (.string fs[p].name) := hcell 0 (by omega)
      have x1 : wr.cell? ⟨g2, p * 5 + 1, none⟩ = some (.int .u8 (fs[p].kind : Nat)) := hcell 1 (by omega)
      have x2 : wr.cell? ⟨g2, p * 5 + 2, none⟩ = some (.int .i64 (fs[p].ref : Nat)) := hcell 2 (by omega)
      have x3 : wr.cell? ⟨g2, p * 5 + 3, none⟩ = some (.int .i64 (fs[p].lists : Nat)) := hcell 3 (by omega)
      have x4 : wr.cell? ⟨g2, p * 5 + 4, none⟩ = some (.int .u64 (fs[p].dflt : Nat)) := hcell 4 (by omega)
      have hSZ := HNO.out.2 _ (List.getElem_mem hpl)
      have HJF : Hid (jfCell fs p = [.string fs[p].name, .int .i64 (p : Int), .int .u8 (fs[p].kind : Nat), .int .i64 (fs[p].ref : Nat), .int .i64 (fs[p].lists : Nat)]) := Lib.hid (by unfold jfCell; rw [hgp])
      obtain ⟨b0, b1⟩ : wr.cell? ⟨B, 0, none⟩ = some (.string nm) ∧ wr.cell? ⟨B, 1, none⟩ = some (.slice (some ⟨g2, 0, none⟩) fs.length fc) := ⟨(blk_cell HM2.out.bx 0).trans rfl, (blk_cell HM2.out.bx 1).trans rfl⟩
      clear hcell hv hgp hp
      generalize fs[p] = f at *
      obtain ⟨fn, fk, fr, fl, fd⟩ := f
      simp only at x0 x1 x2 x3 x4 HJF hSZ
      have HCL := Lib.hid (fun W => clone_any fn W (by omega))
      obtain ⟨la, lc, rfl⟩ := ownsRow_form HM2.out.row
      go_upto_region 6 with (fail)
      have hba : Below wr.heap.size wr (wr.alloc (.cells #[.string fn, .int .u8 fk, .int .i64 (fr : Nat), .int .i64 (fl : Nat), .int .u64 (fd : Nat)] 60)) := (Below.refl _ _).alloc (Nat.le_refl _) _
      have HM3 := Lib.hid (HM2.out.later hba)
      have HQ3 := Lib.hid (heap_alloc_new wr (.cells #[.string fn, .int .u8 fk, .int .i64 (fr : Nat), .int .i64 (fl : Nat), .int .u64 (fd : Nat)] 60))
      clear x0 x1 x2 x3 x4 b0 b1 z0 hba HM2
      generalize wr.alloc (.cells #[.string fn, .int .u8 fk, .int .i64 (fr : Nat), .int .i64 (fl : Nat), .int .u64 (fd : Nat)] 60) = W3 at *
      generalize wr.heap.size = F at *
      obtain ⟨y0, y1, y2, y3, y4⟩ := blk5q HQ3.out
      obtain ⟨i0, hi0, hz0, hz1, hz2⟩ := info_parts jwfld_info
      have HM3d : Hid (RfM B g P w nm fs (some ⟨g2, 0, none⟩) fc j (.slice la j lc) W3.drew) := Lib.hid (HM3.out.later (Below.refl _ _).drew)
      have HQ3d : Hid (W3.drew.heap[F]? = some (.cells #[.string fn, .int .u8 fk, .int .i64 (fr : Nat), .int .i64 (fl : Nat), .int .u64 (fd : Nat)] 60 (0, 0))) := HQ3
      have HAP : Hid (∀ W4 : World, RfM B g P w nm fs (some ⟨g2, 0, none⟩) fc j (.slice la j lc) W4 → ∃ v4 W8, (Builtin.append_ #[144, 144] 144 #[.slice la j lc, .slice (some ⟨W4.heap.size, 0, none⟩) 1 1]).run Tryz.prog (W4.alloc (.cells #[.string fn, .int .i64 p, .int .u8 fk, .int .i64 (fr : Nat), .int .i64 (fl : Nat)] 147)) = .ok v4 W8 ∧ RfM B g P w nm fs (some ⟨g2, 0, none⟩) fc (j + 1) v4 W8) := Lib.hid (fun W4 hm => by
        have ha : Below W4.heap.size W4 (W4.alloc (.cells #[.string fn, .int .i64 p, .int .u8 fk, .int .i64 (fr : Nat), .int .i64 (fl : Nat)] 147)) := (Below.refl _ _).alloc (Nat.le_refl _) _
        have hm2 := hm.later ha
        obtain ⟨v4, W8, hrun, hown, hg, _⟩ := run_append_any (P := Tryz.prog) (W4.alloc (.cells #[.string fn, .int .i64 p, .int .u8 fk, .int .i64 (fr : Nat), .int .i64 (fl : Nat)] 147)) P 144 144 144 147 i0 _ 5 Tryz.underlying144 hi0 hz0 hz1 rfl _ _ _ hm2.row (.slice (some ⟨W4.heap.size, 0, none⟩) 1 1) 1 [.string fn, .int .i64 p, .int .u8 fk, .int .i64 (fr : Nat), .int .i64 (fl : Nat)] (Src.ofSlice _ Tryz.underlying144 ⟨W4.heap.size, 0, none⟩ 1 1 [.string fn, .int .i64 p, .int .u8 fk, .int .i64 (fr : Nat), .int .i64 (fl : Nat)] rfl (World.news_of_block (heap_alloc_new W4 _)) (by intro u hu; simp at hu; rcases hu with rfl | rfl | rfl | rfl | rfl <;> rfl)) (by unfold maxLen; omega) (by rw [hz2]; omega) hm2.top
        refine ⟨v4, W8, hrun, HAPP.out _ _ _ hm2 ?_ hg⟩
        rw [HJF.out]
        exact hown)
      clear hi0 hz0 hz1 hz2 HAPP HJF HM3
      go_region_law (first | (refine step_append_run _ rfl (.tmp 19) (.tmp 27) 144 144 rfl _ _ v4 W8 rfl rfl hrun ?_) | (go_simp; go_at_call 93; (with_reducible refine (HCL.out W3.drew).mono ?_); rintro e W4 ⟨rfl, hb4⟩; have HM4 := Lib.hid (HM3d.out.later hb4); obtain ⟨y0, y1, y2, y3, y4⟩ := blk5q (blk_below HQ3d.out hb4 (blk_lt HQ3d.out)); clear hb4; obtain ⟨v4, W8, hrun, hm8⟩ := HAP.out W4 HM4.out; have HM8 := Lib.hid hm8; clear hm8))
      all_goals
        clear hrun
        go_wp2
        go_roundw
        case rel => exact ⟨j + 1, _, hlt, rfl, by go_num, HM8.out⟩
        case measure => simp [intOf]; omega
    · have hjn : j = fs.length := by omega
      have hji : ¬ (j : Int) < fs.length := by omega
      have HF : Hid (wr.ownsRow B 147 5 lv fs.length (jfCells fs)) := Lib.hid (by
        have h := HM2.out.row
        rw [hjn, List.take_of_length_le (by rw [HLN.out]; exact Nat.le_refl _)] at h
        exact ownsRow_base h (by omega))
      have HBE := Lib.hid HM2.out.bel
      obtain ⟨la, lc, rfl⟩ := ownsRow_form HM2.out.row
      clear HM2 hjn
      go_wp2
      go_ret
      exact ⟨_, rfl, by rw [hBv]; exact HF.out, by rw [hBv]; exact HBE.out⟩
end Go.Proofs.YtiknhkkeifemcaaGreatDoor
namespace Go.Proofs.YtiknhkkeifemcaaGreatDoor
open Go.ChangeShapes Go.WideShapes Go.ChangeAt Go.RowKit Go.Shelf

theorem jwrec_info : (Tryz.prog.info? 144).map (fun i => (i.zero, i.size, i.bytes)) = some (some (.slice none 0 0), 1, 24) := by kernel_rfl
structure RcG (P : Nat) (w : World) (rv : Value) (rs : List (SRec × Value)) (W : World) : Prop where
  bel : Below w.heap.size w W
  top : P ≤ W.heap.size
  row : W.ownsRow P 144 1 rv rs.length (rs.flatMap fun q => [q.2])
  inn : ∀ q ∈ rs, W.ownsRow P 147 5 q.2 q.1.fields.length (jfCells q.1.fields)
theorem RcG.later {P : Nat} {w : World} {rv : Value} {rs : List (SRec × Value)} {W W' : World} (h : RcG P w rv rs W) (hb : Below W.heap.size W W') : RcG P w rv rs W' :=
  ⟨h.bel.trans (hb.mono h.bel.size), Nat.le_trans h.top hb.size, row_keep hb h.row, fun q hq => row_keep hb (h.inn q hq)⟩
theorem RcG.app {P : Nat} {w : World} {rv v4 : Value} {rs : List (SRec × Value)} {q : SRec × Value} {W W8 : World} (h : RcG P w rv rs W) (hP : w.heap.size ≤ P) (hq : W.ownsRow P 147 5 q.2 q.1.fields.length (jfCells q.1.fields))
    (ho : W8.ownsRow P 144 1 v4 (rs.length + 1) ((rs.flatMap fun q => [q.2]) ++ [q.2])) (hg : W.grownBy W8 rv.ownBlock) : RcG P w v4 (rs ++ [q]) W8 := by
  have hlow : ∀ b, rv.ownBlock = some b → P ≤ b := fun b hb => (ownsRow_lt h.row b hb).1
  refine ⟨h.bel.grown hg h.bel.size (fun b hb => by have := hlow b hb; omega), Nat.le_trans h.top hg.size, ?_, fun p hp => ?_⟩
  · rw [List.length_append, List.flatMap_append]
    simpa using ho
  · rcases List.mem_append.1 hp with hp | hp
    · exact row_othr h.row hg (h.inn p hp) (by decide)
    · rw [List.mem_singleton.1 hp]
      exact row_othr h.row hg hq (by decide)
def RcAtG (P : Nat) (w : World) (ss : List (SRec × Value)) (lw i : Value) (W : World) : Prop := ∃ (rv : Value) (rs : List (SRec × Value)), rs.length ≤ ss.length ∧ rv = lw ∧ i = .int .i64 (rs.length : Nat) ∧ jRecs rs = (ss.map Prod.fst).take rs.length ∧ RcG P w rv rs W
def RofsPost (ss : List (SRec × Value)) (w : World) (e : Ending) (w' : World) : Prop := ∃ rv rs, e = .returned rv ∧ jRecs rs = ss.map Prod.fst ∧ rs.length = ss.length ∧ w'.ownsRow w.heap.size 144 1 rv rs.length (rs.flatMap fun q => [q.2]) ∧ (∀ q ∈ rs, w'.ownsRow w.heap.size 147 5 q.2 q.1.fields.length (jfCells q.1.fields)) ∧ Below w.heap.size w w'
set_option maxRecDepth 100000 in
set_option maxHeartbeats 8000000 in
theorem jwrecords_of {w : World} {base : Nat} {ss : List (SRec × Value)} {es : List (SCho × Value)} {sv ev : Value} {root : Nat} (h : SchRows base w ss es sv ev) (hn : ss.length ≤ 1000000) (hf : ∀ q ∈ ss, NamsOk q.1.fields) :
    Calls Tryz.prog 53 #[.agg #[sv, ev, .int .i64 root]] w (RofsPost ss w) := by
  obtain ⟨sa, sc, ea, ec, rfl, rfl⟩ := h.forms
  have hba := (Below.refl w.heap.size w).alloc (Nat.le_refl _) (.cells #[.slice sa ss.length sc, .slice ea es.length ec, .int .i64 root] 30)
  have HQ := Lib.hid (heap_alloc_new w (.cells #[.slice sa ss.length sc, .slice ea es.length ec, .int .i64 root] 30))
  have HM : Hid (RcG (w.heap.size + 1) w (.slice none 0 0) [] (w.alloc (.cells #[.slice sa ss.length sc, .slice ea es.length ec, .int .i64 root] 30))) := Lib.hid ⟨hba, by rw [World.size_alloc]; exact Nat.le_refl _, World.ownsRow_nil _ _ _ _, fun q hq => by cases hq⟩
  have HSC := Lib.hid (fun (W : World) (hb : Below w.heap.size w W) => h.below hb)
  have HF := Lib.hid hf
  clear h hf hba
  go_enter Tryz.func53, Tryz.ntmps53
  go_upto_region 1 with (fail)
  generalize w.alloc (.cells #[.slice sa ss.length sc, .slice ea es.length ec, .int .i64 root] 30) = W0 at *
  obtain ⟨_, r0, r1, r2, _⟩ := blk3 HQ.out
  go_wp2_with fail
  clear r0 r1 r2
  go_loopw [3, 9] (fun lv i wr => RcAtG (w.heap.size + 1) w ss lv i wr) (fun _ i _ => ss.length - (intOf i).toNat)
  case atStart => exact ⟨_, [], Nat.zero_le _, rfl, rfl, rfl, HM.out⟩
  case round =>
    obtain ⟨rv, rs, hk, rfl, rfl, hrs, hm⟩ := hrel
    have HM2 := Lib.hid hm
    have HRS := Lib.hid hrs
    clear hm HM hrs
    by_cases hkl : rs.length < ss.length
    · have hki : (rs.length : Int) < ss.length := by omega
      have HSW := Lib.hid (HSC.out wr HM2.out.bel)
      obtain ⟨g, c, fa, fc, hv, hcc, hg, x0, x1, hfv⟩ := HSW.out.strct rs.length hkl
      obtain ⟨rfl, rfl⟩ := slice_inj hv
      have hff := HF.out _ (List.getElem_mem hkl)
      have hfr := HSW.out.fields _ (List.getElem_mem hkl)
      rw [hfv] at hfr
      have HNX := Lib.hid (show (ss.map Prod.fst).take (rs.length + 1) = (ss.map Prod.fst).take rs.length ++ [ss[rs.length].1] by rw [List.take_succ_eq_append_getElem (by rw [List.length_map]; exact hkl), List.getElem_map])
      clear hv hfv
      generalize ss[rs.length].1 = S at *
      obtain ⟨nm, fs⟩ := S
      simp only at x0 x1 hff hfr
      obtain ⟨la, lc, rfl⟩ := ownsRow_form HM2.out.row
      have hba : Below wr.heap.size wr (wr.alloc (.cells #[.string nm, .slice fa fs.length fc] 63)) := (Below.refl _ _).alloc (Nat.le_refl _) _
      have hq := heap_alloc_new wr (.cells #[.string nm, .slice fa fs.length fc] 63)
      obtain ⟨_, y0, y1, _⟩ := blk2 hq
      have HM3 := Lib.hid (HM2.out.later hba)
      have HFR := Lib.hid (row_keep hba hfr)
      have HFF := Lib.hid hff
      clear hba hq hfr hff HM2
      go_upto_region 5 with (fail)
      generalize wr.alloc (.cells #[.string nm, .slice fa fs.length fc] 63) = W1 at *
      clear x0 x1
      go_wp2_with fail
      refine (jwrecord_of W1 nm fs (.slice fa fs.length fc) base HFR.out HFF.out).mono ?_
      rintro e W2 ⟨lv, rfl, hl, hb2⟩
      obtain ⟨ra, rc, rfl⟩ := ownsRow_form hl
      have HM4 := Lib.hid (HM3.out.later hb2)
      have HIN := Lib.hid (ownsRow_base hl (base' := w.heap.size + 1) HM3.out.top)
      obtain ⟨i0, hi0, hz0, hz1, hz2⟩ := info_parts jwrec_info
      have I1 := Lib.hid hi0
      have I2 := Lib.hid hz0
      have I3 := Lib.hid hz1
      have I4 := Lib.hid hz2
      have hal : Below W2.heap.size W2 (W2.alloc (.cells #[.slice ra fs.length rc] 144)) := (Below.refl _ _).alloc (Nat.le_refl _) _
      have HM5 := Lib.hid (HM4.out.later hal)
      have HIN5 := Lib.hid (row_keep hal HIN.out)
      have HBN := Lib.hid (heap_alloc_new W2 (.cells #[.slice ra fs.length rc] 144))
      have HTP := Lib.hid HM5.out.top
      clear hl hb2 hi0 hz0 hz1 hz2 hal y0 y1 HM3 HM4 HIN
      go_upto_region 6 with (at_builtin; refine wpList_append_any _ rfl (.tmp 13) (.tmp 16) 119 119 rfl (w.heap.size + 1) 144 i0 _ 1 Tryz.underlying119 I1.out I2.out I3.out rfl (.slice la rs.length lc) rs.length (rs.flatMap fun q => [q.2]) rfl HM5.out.row (.slice (some ⟨W2.heap.size, 0, none⟩) 1 1) 1 [.slice ra fs.length rc] rfl (Src.ofSlice _ Tryz.underlying119 ⟨W2.heap.size, 0, none⟩ 1 1 [.slice ra fs.length rc] rfl (World.news_of_block HBN.out) (by intro u hu; rw [List.mem_singleton.1 hu]; rfl)) (by unfold maxLen; omega) (by rw [I4.out]; omega) HTP.out ?_; intro v4 W8 hown4 hg4 hx4; clear hx4; have HF := Lib.hid (HM5.out.app (q := (⟨nm, fs⟩, .slice ra fs.length rc)) (Nat.le_succ _) HIN5.out hown4 hg4); clear hown4 hg4)
      go_wp2
      go_roundw
      case rel => exact ⟨_, rs ++ [(⟨nm, fs⟩, .slice ra fs.length rc)], by rw [List.length_append]; exact hkl, rfl, by rw [List.length_append, List.length_singleton]; go_num, by rw [List.length_append, List.length_singleton, HNX.out, ← HRS.out]; simp [jRecs], HF.out⟩
      case measure => simp [intOf]; omega
    · have hkn : rs.length = ss.length := by omega
      have hki : ¬ (rs.length : Int) < ss.length := by omega
      have HRE := Lib.hid (show jRecs rs = ss.map Prod.fst by rw [HRS.out, hkn]; exact List.take_of_length_le (by rw [List.length_map]; exact Nat.le_refl _))
      have HKN := Lib.hid hkn
      obtain ⟨la, lc, rfl⟩ := ownsRow_form HM2.out.row
      clear hkn
      go_wp2
      go_ret
      exact ⟨_, rs, rfl, HRE.out, HKN.out, ownsRow_base HM2.out.row (Nat.le_succ _), fun q hq => ownsRow_base (HM2.out.inn q hq) (Nat.le_succ _), HM2.out.bel⟩
end Go.Proofs.YtiknhkkeifemcaaGreatDoor
