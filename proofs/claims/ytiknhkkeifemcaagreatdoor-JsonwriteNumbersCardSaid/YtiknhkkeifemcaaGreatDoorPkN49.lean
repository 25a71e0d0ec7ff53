/-
  The package jsonwrite's Done of a writer, and Write of any value that is shown to it. Conditions: those that each theorem names.
-/
import Derived.Test.YtiknhkkeifemcaaGreatDoorPkN4
import Derived.Test.YtiknhkkeifemcaaGreatDoorPkN45
import Derived.Test.YtiknhkkeifemcaaGreatDoorPkN48
import Derived.BigQuiet
namespace Go.Proofs.YtiknhkkeifemcaaGreatDoor
open Go.ChangeShapes Go.WideShapes Go.ChangeAt Go.RowKit Go.Shelf

theorem jrow_stay {W W' : World} {base : Nat} {e : TypeId} {s n : Nat} {v : Value} {xs : List Value} (h : W.ownsRow base e s v n xs) (hD : ∀ g, base ≤ g → g < W.heap.size → W'.heap[g]? = W.heap[g]?) : W'.ownsRow base e s v n xs := by
  obtain ⟨hl, h'⟩ := h
  refine ⟨hl, ?_⟩
  rcases h' with h1 | ⟨g', cap', cur, rfl, h1, hg', h2⟩
  · exact .inl h1
  · exact .inr ⟨g', cap', cur, rfl, h1, (hD g' h1 (blk_lt hg')).trans hg', h2⟩
theorem JwRows.stay {W W' : World} {base : Nat} {rs : List (SRec × Value)} {cs : List (SCho × Value)} {rv cv : Value} (h : JwRows base W rs cs rv cv) (hD : ∀ g, base ≤ g → g < W.heap.size → W'.heap[g]? = W.heap[g]?) : JwRows 0 W' rs cs rv cv :=
  ⟨ownsRow_base (jrow_stay h.recs hD) (Nat.zero_le _), fun q hq => ownsRow_base (jrow_stay (h.rec_ q hq) hD) (Nat.zero_le _), ownsRow_base (jrow_stay h.chos hD) (Nat.zero_le _), fun q hq => ownsRow_base (jrow_stay (h.cho q hq) hD) (Nat.zero_le _)⟩
def DJ (a b : Nat) (j : Nat) : Prop := (a ≤ j ∧ j < b) ∨ j = 0
theorem pow_ne {w : World} {mk : Nat} {left : Int} {mo : Bool} (hT : PowT w) (hm : w.heap[mk]? = some (.cells #[.int .i64 left, .bool mo] 152 (0, 0))) : mk ≠ 0 := by
  intro e
  rw [e] at hm
  unfold PowT Lib.TabIs World.var? at hT
  rw [pow_named] at hT
  simp only [Option.bind_some, hm] at hT
  have h2 := congrArg (fun x : Option (Array Value) => (x.getD #[]).size) hT
  simp [Lib.pow10Tab] at h2
structure JwOk (ss : List (SRec × Value)) (es : List (SCho × Value)) : Prop where
  few : ss.length ≤ 16 ∧ es.length ≤ 1000
  flds : ∀ q ∈ ss, q.1.fields.length ≤ 16 ∧ (∀ f ∈ q.1.fields, f.name.size ≤ 1000) ∧ ∀ f ∈ q.1.fields, TyJ ss.length f.kind f.ref (f.lists : Nat)
  nams : ∀ q ∈ es, q.1.names.length ≤ 1000 ∧ ∀ s ∈ q.1.names, s.size ≤ 1000
theorem JwOk.made {ss rs : List (SRec × Value)} {es cs : List (SCho × Value)} (h : JwOk ss es) (h1 : jRecs rs = ss.map Prod.fst) (h2 : jChos cs = es.map Prod.fst) :
    (rs.length ≤ 16 ∧ (∀ q ∈ rs, q.1.fields.length ≤ 16 ∧ ∀ f ∈ q.1.fields, f.name.size ≤ 1000) ∧ cs.length ≤ 1000 ∧ ∀ q ∈ cs, q.1.names.length ≤ 1000 ∧ ∀ s ∈ q.1.names, s.size ≤ 1000) ∧ ∀ q ∈ rs, ∀ f ∈ q.1.fields, TyJ rs.length f.kind f.ref (f.lists : Nat) := by
  have l1 := congrArg List.length h1
  have l2 := congrArg List.length h2
  unfold jRecs at l1
  unfold jChos at l2
  rw [List.length_map, List.length_map] at l1 l2
  have m1 : ∀ q ∈ rs, ∃ p ∈ ss, p.1 = q.1 := fun q hq => by
    have h3 : q.1 ∈ ss.map Prod.fst := by rw [← h1]; exact List.mem_map.2 ⟨q, hq, rfl⟩
    exact List.mem_map.1 h3
  have m2 : ∀ q ∈ cs, ∃ p ∈ es, p.1 = q.1 := fun q hq => by
    have h3 : q.1 ∈ es.map Prod.fst := by rw [← h2]; exact List.mem_map.2 ⟨q, hq, rfl⟩
    exact List.mem_map.1 h3
  refine ⟨⟨l1 ▸ h.few.1, fun q hq => ?_, l2 ▸ h.few.2, fun q hq => ?_⟩, fun q hq f hf => ?_⟩
  · obtain ⟨p, hp, e⟩ := m1 q hq
    rw [← e]
    exact ⟨(h.flds p hp).1, (h.flds p hp).2.1⟩
  · obtain ⟨p, hp, e⟩ := m2 q hq
    rw [← e]
    exact h.nams p hp
  · obtain ⟨p, hp, e⟩ := m1 q hq
    rw [← e] at hf
    rw [l1]
    exact (h.flds p hp).2.2 f hf
def JwNew (w : World) (mk : Nat) (left : Int) (mo : Bool) (S : List SRec) (E : List SCho) (e : Ending) (w' : World) : Prop :=
  ∃ rs cs rv cv wk ak B, e = .returned (.pointer (some ⟨wk, 0, none⟩)) ∧ jRecs rs = S ∧ jChos cs = E ∧ JwSt w' w.heap.size wk ak mk rv cv none 0 [] false left mo 0 ∧ JwCtx (DJ w.heap.size B) w' wk ak mk none rs cs rv cv ∧ w.heap.size ≤ ak ∧ Below w.heap.size w w'
set_option maxRecDepth 100000 in
set_option maxHeartbeats 8000000 in
theorem jwnew_any {w : World} {base : Nat} {ss : List (SRec × Value)} {es : List (SCho × Value)} {sv ev : Value} {r mk : Nat} {left : Int} {mo : Bool} (h : SchRows base w ss es sv ev) (hk : JwOk ss es) (hT : PowT w) (hm : w.heap[mk]? = some (.cells #[.int .i64 left, .bool mo] 152 (0, 0))) :
    Calls Tryz.prog 29 #[.agg #[sv, ev, .int .i64 r], .pointer (some ⟨mk, 0, none⟩)] w (JwNew w mk left mo (ss.map Prod.fst) (es.map Prod.fst)) := by
  obtain ⟨sa, sc, ea, ec, rfl, rfl⟩ := h.forms
  have hba := (Below.refl w.heap.size w).alloc (Nat.le_refl _) (.cells #[.slice sa ss.length sc, .slice ea es.length ec, .int .i64 r] 30)
  have q0 := heap_alloc_new w (.cells #[.slice sa ss.length sc, .slice ea es.length ec, .int .i64 r] 30)
  have HB : Hid (Below w.heap.size w (w.alloc (.cells #[.slice sa ss.length sc, .slice ea es.length ec, .int .i64 r] 30)).drew) := Lib.hid hba.drew
  have HQ := Lib.hid q0
  have HSC := Lib.hid (fun (W : World) (hb : Below w.heap.size w W) => h.below hb)
  have HK := Lib.hid hk
  have HM := Lib.hid hm
  have HT := Lib.hid hT
  have HNE := Lib.hid (pow_ne hT hm)
  have HR := Lib.hid (fun (W : World) (hb : Below w.heap.size w W) => jwrecords_of (root := r) (h.below hb) (by have := hk.few.1; omega) (fun q hq => ⟨by have := (hk.flds q hq).1; omega, (hk.flds q hq).2.1⟩))
  have HC := Lib.hid (fun (W : World) (hb : Below w.heap.size w W) => jwchoices_of (root := r) (h.below hb) (by have := hk.few.2; omega) (fun q hq => ⟨by have := (hk.nams q hq).1; omega, (hk.nams q hq).2⟩))
  obtain ⟨_, x0, x1, x2, _⟩ := blk3 q0
  clear h hba q0 hm hk hT
  go_enter Tryz.func29, Tryz.ntmps29
  go_upto_region 1 with (fail)
  generalize hW0 : w.alloc (.cells #[.slice sa ss.length sc, .slice ea es.length ec, .int .i64 r] 30) = W0 at *
  have HQd : Hid (W0.drew.heap[w.heap.size]? = some (.cells #[.slice sa ss.length sc, .slice ea es.length ec, .int .i64 r] 30 (0, 0))) := HQ
  clear hW0
  go_region_law (first
    | (go_simp; go_at_call 53; (with_reducible refine (HR.out _ HB.out).mono ?_); rintro e W2 ⟨rv, rs, rfl, hrs, hrl, hrow, hinn, hb2⟩; have HB2 := Lib.hid (HB.out.trans (hb2.mono HB.out.size)); have HRS := Lib.hid hrs; have HRL := Lib.hid hrl; have HRW := Lib.hid (ownsRow_base hrow (base' := w.heap.size) HB.out.size); have HRI := Lib.hid (fun q hq => ownsRow_base (hinn q hq) (base' := w.heap.size) HB.out.size); obtain ⟨ra, rc, rfl⟩ := ownsRow_form hrow; obtain ⟨_, x0, x1, x2, _⟩ := blk3 (blk_below HQd.out hb2 (blk_lt HQd.out)); have HQ2 := Lib.hid (blk_below HQd.out hb2 (blk_lt HQd.out)); clear hrs hrl hrow hinn hb2)
    | (go_simp; go_at_call 54; (with_reducible refine (HC.out _ HB2.out).mono ?_); rintro e W3 ⟨cv, cs, rfl, hcs, hcl, hcow, hcnn, hb3⟩; have HB3 := Lib.hid (HB2.out.trans (hb3.mono HB2.out.size)); have HCS := Lib.hid hcs; have HCL := Lib.hid hcl; have HCW := Lib.hid (ownsRow_base hcow (base' := w.heap.size) HB2.out.size); have HCI := Lib.hid (fun q hq => ownsRow_base (hcnn q hq) (base' := w.heap.size) HB2.out.size); have HRW3 := Lib.hid (row_keep hb3 HRW.out); have HRI3 := Lib.hid (fun q hq => row_keep hb3 (HRI.out q hq)); obtain ⟨ca, cc, rfl⟩ := ownsRow_form hcow; obtain ⟨_, x0, x1, x2, _⟩ := blk3 (blk_below HQ2.out hb3 (blk_lt HQ2.out)); clear hcs hcl hcow hcnn hb3)
    | (go_simp; go_at_call 55; (with_reducible refine (anew_any 32768 _).mono ?_); rintro e W4 ⟨rfl, hW4⟩; have HW4 := Lib.hid hW4; clear hW4 x0 x1 x2))
  all_goals
    have hml := blk_lt HM.out
    have hw3 := HB3.out.size
    have hpl := HT.out.lt
    have hW4 := HW4.out
    have har : IsArena W4 w.heap.size W3.heap.size none 0 [] 32768 false := by rw [hW4]; exact new_arena 32768 W3 w.heap.size hw3
    have hb4 : Below W3.heap.size W3 W4 := by rw [hW4]; exact (Below.refl _ _).alloc (Nat.le_refl _) _
    have hs4 : W4.heap.size = W3.heap.size + 1 := by rw [hW4]; exact World.size_alloc _ _
    clear hW4 HW4
    have hb5 := (Below.refl W4.heap.size W4).alloc (Nat.le_refl _) (.cells #[.slice ra rs.length rc, .slice ca cs.length cc, .pointer (some ⟨W3.heap.size, 0, none⟩), .pointer (some ⟨mk, 0, none⟩), .int .i64 0] 126)
    have q5 := heap_alloc_new W4 (.cells #[.slice ra rs.length rc, .slice ca cs.length cc, .pointer (some ⟨W3.heap.size, 0, none⟩), .pointer (some ⟨mk, 0, none⟩), .int .i64 0] 126)
    have hx : Below w.heap.size w (W4.alloc (.cells #[.slice ra rs.length rc, .slice ca cs.length cc, .pointer (some ⟨W3.heap.size, 0, none⟩), .pointer (some ⟨mk, 0, none⟩), .int .i64 0] 126)) := (HB3.out.trans (hb4.mono hw3)).trans (hb5.mono (by omega))
    have hok := HK.out.made HRS.out HCS.out
    have HEND := Lib.hid (show JwNew w mk left mo (ss.map Prod.fst) (es.map Prod.fst) (.returned (.pointer (some ⟨W4.heap.size, 0, none⟩))) (W4.alloc (.cells #[.slice ra rs.length rc, .slice ca cs.length cc, .pointer (some ⟨W3.heap.size, 0, none⟩), .pointer (some ⟨mk, 0, none⟩), .int .i64 0] 126)) from by
      refine ⟨rs, cs, _, _, W4.heap.size, W3.heap.size, W3.heap.size, rfl, HRS.out, HCS.out, ⟨q5, har.below hb5, blk_below HM.out hx hml, by omega, by omega, by omega, by simp [rowOf], by simp [rowOf], by omega⟩, ⟨fun W hW => ⟨?_, ?_⟩, fun j hj => ?_, ⟨?_, ?_, ?_, ?_⟩, hok.1, hok.2⟩, hw3, hx⟩
      · exact (JwRows.mk HRW3.out HRI3.out HCW.out HCI.out).stay (fun g h1 h2 => (hW.block g (.inl ⟨h1, h2⟩)).trans ((hb5.block g (by omega)).trans (hb4.block g h2)))
      · exact HT.out.keep ((hW.block _ (.inr rfl)).trans (hx.block _ hpl))
      · rw [World.size_alloc]
        rcases hj with hj | hj
        · omega
        · omega
      · rintro (hd | hd) <;> omega
      · rintro (hd | hd) <;> omega
      · rintro (hd | hd)
        · omega
        · exact HNE.out hd
      · intro r hr
        simp [rowOf] at hr)
    clear har hb4 hb5 q5 hx hs4 hok hpl
    go_wp2
    go_ret
    exact HEND.out
end Go.Proofs.YtiknhkkeifemcaaGreatDoor
namespace Go.Proofs.YtiknhkkeifemcaaGreatDoor
open Go.ChangeShapes Go.WideShapes Go.ChangeAt Go.RowKit Go.Shelf

inductive JwDone (L : Int) (enc : List Int) (pay : Int) (w : World) : Ending → World → Prop
  | form (w' : World) (g : Nat) (hg : w.heap.size ≤ g) (ho : OwnR w' g 5 g enc.length enc.length enc) (h1 : enc.length ≤ 32768) (hx : Below w.heap.size w w') : JwDone L enc pay w (.returned (.tuple #[.slice (some ⟨g, 0, none⟩) enc.length enc.length, .int .i64 0])) w'
  | large (w' : World) (h1 : 32768 < enc.length) (hx : Below w.heap.size w w') : JwDone L enc pay w (.returned (.tuple #[.slice none 0 0, .int .i64 4])) w'
  | poor (w' : World) (h1 : L < pay) (hx : Below w.heap.size w w') : JwDone L enc pay w (.returned (.tuple #[.slice none 0 0, .int .i64 3])) w'
set_option maxRecDepth 100000 in
set_option maxHeartbeats 4000000 in
theorem jdone_go {w : World} {base wk ak mk : Nat} {rv cv : Value} {A : Option Addr} {L pay : Int} {enc : List Int} (h : JwGo base wk ak mk rv cv A L enc pay w) :
    Calls Tryz.prog 35 #[.pointer (some ⟨wk, 0, none⟩)] w (JwDone L enc pay w) := by
  obtain ⟨cap, left, h1, _⟩ := h
  have HO := Lib.hid (out_any mk left false w h1.meter)
  have HV := Lib.hid (over_any h1.arena)
  have HY := Lib.hid (bytes_yes h1.arena)
  have HF := Lib.hid h1.arena.fits
  obtain ⟨c0, c1, c2, c3, c4⟩ := blk5q h1.blk
  clear h1
  go_enter Tryz.func35, Tryz.ntmps35
  go_wp2_with fail
  refine HO.out.mono ?_
  rintro e W1 ⟨rfl, rfl⟩
  go_wp2_with fail
  refine HV.out.mono ?_
  rintro e W1 ⟨rfl, rfl⟩
  go_wp2_with fail
  refine HY.out.mono ?_
  rintro e W2 ⟨rfl, ho, hb⟩
  have HE := Lib.hid (JwDone.form (L := L) (pay := pay) W2 w.heap.size (Nat.le_refl _) ho (by have := HF.out; omega) hb)
  clear ho hb c0 c1 c2 c3 c4 HO HV HY
  go_wp2
  go_ret2
  exact HE.out
set_option maxRecDepth 100000 in
set_option maxHeartbeats 4000000 in
theorem jdone_off {w : World} {base wk ak mk : Nat} {rv cv : Value} {A : Option Addr} {L pay : Int} {enc : List Int} (h : JwOff base wk ak mk rv cv A L enc pay w) :
    Calls Tryz.prog 35 #[.pointer (some ⟨wk, 0, none⟩)] w (JwDone L enc pay w) := by
  obtain ⟨cap, zs, over, left, mo, f, h1, ⟨rfl, rfl, rfl, h2⟩ | ⟨rfl, h2⟩⟩ := h
  · have HO := Lib.hid (out_any mk left false w h1.meter)
    have HV := Lib.hid (over_any h1.arena)
    have HE := Lib.hid (JwDone.large (L := L) (pay := pay) w h2 (Below.refl _ _))
    obtain ⟨c0, c1, c2, c3, c4⟩ := blk5q h1.blk
    clear h1
    go_enter Tryz.func35, Tryz.ntmps35
    go_wp2_with fail
    refine HO.out.mono ?_
    rintro e W1 ⟨rfl, rfl⟩
    go_wp2_with fail
    refine HV.out.mono ?_
    rintro e W1 ⟨rfl, rfl⟩
    clear c0 c1 c2 c3 c4 HO HV
    go_wp2
    go_ret2
    exact HE.out
  · have HE := Lib.hid (fun (W : World) (hb : Below w.heap.size w W) => JwDone.poor (enc := enc) W h2 hb)
    obtain ⟨c0, c1, c2, c3, c4⟩ := blk5q h1.blk
    clear h1
    go_enter Tryz.func35, Tryz.ntmps35
    go_upto_region 4 with (fail)
    go_quiet (fail)
    have HXN : Hid (Below w.heap.size w (w.drewN nq)) := Lib.hid ⟨rfl, rfl, rfl, Nat.le_refl _, fun _ _ => rfl⟩
    clear c0 c1 c2 c3 c4
    simp only [Exit.then]
    go_wp2
    go_ret2
    exact HE.out _ HXN.out
theorem jdone_any {w : World} {base wk ak mk : Nat} {rv cv : Value} {A : Option Addr} {L pay : Int} {enc : List Int} (h : JwAt base wk ak mk rv cv A L enc pay w) :
    Calls Tryz.prog 35 #[.pointer (some ⟨wk, 0, none⟩)] w (JwDone L enc pay w) := by
  rcases h with h | h
  · exact jdone_go h
  · exact jdone_off h
end Go.Proofs.YtiknhkkeifemcaaGreatDoor
