/-
  The program's writer of JSON (package jsonwrite): what it keeps of the schema, in memory; a name of an enum's value; a number. Conditions: those that each theorem names.
-/
import Derived.Test.YtiknhkkeifemcaaGreatDoorPkN19
import Derived.Test.YtiknhkkeifemcaaGreatDoorPkN37
import Derived.Test.YtiknhkkeifemcaaGreatDoorPkN38
namespace Go.Proofs.YtiknhkkeifemcaaGreatDoor
open Go.ChangeShapes Go.WideShapes Go.ChangeAt Go.RowKit Go.Shelf

def jfCell (fs : List SFld) (i : Nat) : List Value := [.string (fs.getD i noSF).name, .int .i64 (i : Int), .int .u8 ((fs.getD i noSF).kind : Nat), .int .i64 ((fs.getD i noSF).ref : Nat), .int .i64 ((fs.getD i noSF).lists : Nat)]
def jfCells (fs : List SFld) : List Value := (ordJ fs).flatMap (jfCell fs)
structure JwRows (base : Nat) (W : World) (rs : List (SRec × Value)) (cs : List (SCho × Value)) (rv cv : Value) : Prop where
  recs : W.ownsRow base 144 1 rv rs.length (rs.flatMap fun q => [q.2])
  rec_ : ∀ q ∈ rs, W.ownsRow base 147 5 q.2 q.1.fields.length (jfCells q.1.fields)
  chos : W.ownsRow base 188 1 cv cs.length (cs.flatMap fun q => [q.2])
  cho : ∀ q ∈ cs, W.ownsRow base 9 1 q.2 q.1.names.length (strsCells q.1.names)
def jRecs (rs : List (SRec × Value)) : List SRec := rs.map Prod.fst
def jChos (cs : List (SCho × Value)) : List SCho := cs.map Prod.fst
def TyJ (n k ref : Nat) (lists : Int) : Prop := k ≤ 255 ∧ 0 ≤ lists ∧ lists ≤ 1000000 ∧ ref ≤ 1000000 ∧ (k = 13 → ref < n)
structure JwCtx (D : Nat → Prop) (w : World) (wk ak mk : Nat) (A : Option Addr) (rs : List (SRec × Value)) (cs : List (SCho × Value)) (rv cv : Value) : Prop where
  rows : ∀ W, OutD D w W → JwRows 0 W rs cs rv cv ∧ PowT W
  lt : ∀ j, D j → j < w.heap.size
  av : Avoid D wk ak mk A
  few : rs.length ≤ 16 ∧ (∀ q ∈ rs, q.1.fields.length ≤ 16 ∧ ∀ f ∈ q.1.fields, f.name.size ≤ 1000) ∧ cs.length ≤ 1000 ∧ ∀ q ∈ cs, q.1.names.length ≤ 1000 ∧ ∀ s ∈ q.1.names, s.size ≤ 1000
  ok : ∀ q ∈ rs, ∀ f ∈ q.1.fields, TyJ rs.length f.kind f.ref (f.lists : Nat)
theorem JwCtx.step {D : Nat → Prop} {w w' : World} {wk ak mk : Nat} {A A' : Option Addr} {rs : List (SRec × Value)} {cs : List (SCho × Value)} {rv cv : Value} (h : JwCtx D w wk ak mk A rs cs rv cv) (hx : Fx wk ak mk A A' w w') : JwCtx D w' wk ak mk A' rs cs rv cv := by
  obtain ⟨h1, h2⟩ := hx.avoid h.lt h.av
  exact ⟨fun W hW => h.rows W (h1.trans hW), fun j hj => Nat.lt_of_lt_of_le (h.lt j hj) hx.size, h2, h.few, h.ok⟩
structure JwAll (D Dv : Nat → Prop) (w : World) (base wk ak mk : Nat) (rv cv : Value) (A : Option Addr) (L : Int) (enc : List Int) (pay : Int) (rs : List (SRec × Value)) (cs : List (SCho × Value)) : Prop where
  at_ : JwAt base wk ak mk rv cv A L enc pay w
  ctx : JwCtx D w wk ak mk A rs cs rv cv
  seen : SeenD Dv w wk ak mk A
section
variable {D Dv : Nat → Prop} {w : World} {base wk ak mk : Nat} {rv cv : Value} {A : Option Addr} {L pay : Int} {enc bs : List Int} {rs : List (SRec × Value)} {cs : List (SCho × Value)}
theorem JwAll.below {w' : World} (h : JwAll D Dv w base wk ak mk rv cv A L enc pay rs cs) (hb : Below w.heap.size w w') : JwAll D Dv w' base wk ak mk rv cv A L enc pay rs cs :=
  ⟨h.at_.below hb, h.ctx.step (.of_below A hb), (h.seen.step (.of_below A hb)).1⟩
theorem JwAll.to {w' : World} {enc' : List Int} {pay' : Int} (h : JwAll D Dv w base wk ak mk rv cv A L enc pay rs cs) (ht : JwTo base wk ak mk rv cv A L enc' pay' w w') : ∃ A', JwAll D Dv w' base wk ak mk rv cv A' L enc' pay' rs cs ∧ Fx wk ak mk A A' w w' := by
  obtain ⟨A', h1, h2⟩ := ht
  exact ⟨A', ⟨h1, h.ctx.step h2, (h.seen.step h2).1⟩, h2⟩
theorem JwAt.blk (h : JwAt base wk ak mk rv cv A L enc pay w) : ∃ f : Int, w.heap[wk]? = some (.cells #[rv, cv, .pointer (some ⟨ak, 0, none⟩), .pointer (some ⟨mk, 0, none⟩), .int .i64 f] 126 (0, 0)) := by
  rcases h with ⟨_, _, h, _⟩ | ⟨_, _, _, _, _, f, h, _⟩
  · exact ⟨0, h.blk⟩
  · exact ⟨f, h.blk⟩
theorem jgoes_any (h : JwAt base wk ak mk rv cv A L enc pay w) :
    Calls Tryz.prog 60 #[.pointer (some ⟨wk, 0, none⟩)] w fun e w' => (∃ b : Bool, e = .returned (.bool b) ∧ (b = true → JwGo base wk ak mk rv cv A L enc pay w) ∧ (b = false → JwOff base wk ak mk rv cv A L enc pay w)) ∧ w = w' := by
  rcases h with h | h
  · obtain ⟨cap, left, h1, h2⟩ := h
    refine (jgoes_yes h1).mono ?_
    rintro e w' ⟨rfl, rfl⟩
    exact ⟨⟨true, rfl, fun _ => ⟨cap, left, h1, h2⟩, fun h => (by cases h)⟩, rfl⟩
  · have h0 := h
    obtain ⟨cap, zs, ov, left, mo, f, h1, h2⟩ := h
    rcases h2 with ⟨rfl, rfl, _⟩ | ⟨rfl, _⟩
    · refine (jgoes_yes h1).mono ?_
      rintro e w' ⟨rfl, rfl⟩
      exact ⟨⟨false, rfl, fun h => (by cases h), fun _ => h0⟩, rfl⟩
    · refine (jgoes_no h1).mono ?_
      rintro e w' ⟨rfl, rfl⟩
      exact ⟨⟨false, rfl, fun h => (by cases h), fun _ => h0⟩, rfl⟩
theorem namJ_out {es : List SCho} {ref n : Nat} (h : es.length ≤ ref) : namJ es (ref : Int) n = ⟨#[]⟩ := by
  unfold namJ
  have hn : es.getD ((ref : Int)).toNat ⟨⟨#[]⟩, []⟩ = ⟨⟨#[]⟩, []⟩ := by rw [List.getD, List.getElem?_eq_none (by omega)]; rfl
  rw [hn]
  rfl
theorem namJ_at {es : List SCho} {ref n : Nat} (h : ref < es.length) : namJ es (ref : Int) n = (es[ref]).names.getD n ⟨#[]⟩ := by
  unfold namJ
  have hn : es.getD ((ref : Int)).toNat ⟨⟨#[]⟩, []⟩ = es[ref] := by rw [Int.toNat_natCast, List.getD, List.getElem?_eq_getElem h]; rfl
  rw [hn]
set_option maxRecDepth 100000 in
set_option maxHeartbeats 2000000 in
theorem jchoice_any (h : JwAt base wk ak mk rv cv A L enc pay w) (hc : JwCtx D w wk ak mk A rs cs rv cv) (ref n : Nat) (hr : ref ≤ 1000000) (hn : n ≤ maxU) :
    Calls Tryz.prog 62 #[.pointer (some ⟨wk, 0, none⟩), .int .i64 ref, .int .u64 n] w fun e w' => e = .returned (.string (namJ (jChos cs) ref n)) ∧ w = w' := by
  have hmx : maxU = 18446744073709551615 := rfl
  obtain ⟨f, hb⟩ := h.blk
  obtain ⟨c0, c1, c2, c3, c4⟩ := blk5q hb
  have hR := (hc.rows w (OutD.refl _ _)).1
  obtain ⟨va, vc, rfl⟩ := ownsRow_form hR.chos
  have hr0 : ¬ (ref : Int) < 0 := by omega
  have hr1 : (0 : Int) ≤ ref := by omega
  have hcl := hc.few.2.2.1
  by_cases h1 : ref < cs.length
  · have h1i : ¬ (cs.length : Int) ≤ ref := by omega
    have h1j : (ref : Int) < cs.length := by omega
    obtain ⟨g, cc, hv, hcc, hg, hcell⟩ := row_el (fun q : SCho × Value => [q.2]) 1 (fun _ => rfl) hR.chos ref h1
    obtain ⟨rfl, rfl⟩ := slice_inj hv
    have x0 : w.cell? ⟨g, ref, none⟩ = some cs[ref].2 := by have h := hcell 0 (by omega); rw [Nat.mul_one, Nat.add_zero] at h; exact h
    have hN := hR.cho _ (List.getElem_mem h1)
    have hnl := (hc.few.2.2.2 _ (List.getElem_mem h1)).1
    have HNJ : Hid (namJ (jChos cs) ref n = cs[ref].1.names.getD n ⟨#[]⟩) := Lib.hid (by
      rw [namJ_at (by unfold jChos; rw [List.length_map]; exact h1)]
      unfold jChos
      rw [List.getElem_map])
    obtain ⟨r, hr2⟩ : ∃ r, namJ (jChos cs) ref n = r := ⟨_, rfl⟩
    rw [hr2] at HNJ ⊢
    obtain ⟨na, nc, hnv⟩ := ownsRow_form hN
    rw [hnv] at x0 hN
    generalize cs[ref].1.names = ns at *
    have hw := IntWalk.u64_in (ns.length : Int) ⟨by omega, by omega⟩
    by_cases h2 : n < ns.length
    · have h2i : ¬ (ns.length : Int) ≤ n := by omega
      have h2j : (n : Int) < ns.length := by omega
      obtain ⟨g2, c2', hv2, hcc2, hg2, hcell2⟩ := row_el strCells 1 (fun _ => rfl) hN n h2
      obtain ⟨rfl, rfl⟩ := slice_inj hv2
      have y0 : w.cell? ⟨g2, n, none⟩ = some (.string ns[n]) := by have h := hcell2 0 (by omega); simpa [strCells] using h
      have HN2 : Hid (ns[n] = r) := Lib.hid (by rw [HNJ.out, List.getD, List.getElem?_eq_getElem h2]; rfl)
      generalize ns[n] = s at *
      have hn0 : (0 : Int) ≤ n := by omega
      clear hcell hcell2 hv hv2 h hc hR hN hb hr2 hnv HNJ hmx
      go_enter Tryz.func62, Tryz.ntmps62
      go_wp2
      go_ret
      exact ⟨by rw [← HN2.out]; rfl, rfl⟩
    · have h2i : (ns.length : Int) ≤ n := by omega
      have HN2 : Hid (⟨#[]⟩ = r) := Lib.hid (by rw [HNJ.out, List.getD, List.getElem?_eq_none (by omega)]; rfl)
      clear hcell hv h hc hR hN hb hr2 hnv HNJ hmx
      go_enter Tryz.func62, Tryz.ntmps62
      go_wp2
      go_ret
      exact ⟨by rw [← HN2.out]; rfl, rfl⟩
  · have h1i : (cs.length : Int) ≤ ref := by omega
    have HN2 : Hid (⟨#[]⟩ = namJ (jChos cs) ref n) := Lib.hid (namJ_out (by unfold jChos; rw [List.length_map]; omega)).symm
    generalize namJ (jChos cs) ref n = r at *
    clear h hc hR hb hmx
    go_enter Tryz.func62, Tryz.ntmps62
    go_wp2
    go_ret
    exact ⟨by rw [← HN2.out]; rfl, rfl⟩
end
end Go.Proofs.YtiknhkkeifemcaaGreatDoor
