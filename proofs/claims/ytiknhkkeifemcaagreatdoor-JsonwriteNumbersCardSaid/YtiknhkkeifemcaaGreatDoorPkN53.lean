/-
  The statement of the law JsonwriteNumbers, from its walk: for every input that can be read the law returns true, and its arguments read as they did. Conditions: those of the given row (the listed tables hold what the program's text lays; the card ties them).
-/
import Derived.Test.YtiknhkkeifemcaaGreatDoorPkN3
import Derived.Test.YtiknhkkeifemcaaGreatDoorPkN4
import Derived.Test.YtiknhkkeifemcaaGreatDoorPkN11
import Derived.Test.YtiknhkkeifemcaaGreatDoorPkN13
import Derived.Test.YtiknhkkeifemcaaGreatDoorPkN15
import Derived.Test.YtiknhkkeifemcaaGreatDoorPkN19
import Derived.Test.YtiknhkkeifemcaaGreatDoorPkN23
import Derived.Test.YtiknhkkeifemcaaGreatDoorPkN26
import Derived.Test.YtiknhkkeifemcaaGreatDoorPkN27
import Derived.Test.YtiknhkkeifemcaaGreatDoorPkN30
import Derived.Test.YtiknhkkeifemcaaGreatDoorPkN40
import Derived.Test.YtiknhkkeifemcaaGreatDoorPkN43
import Derived.Test.YtiknhkkeifemcaaGreatDoorPkN52
import Derived.Deep.RegionHeld3
import Derived.Test.YtiknhkkeifemcaaGreatDoorCards
import Derived.Test.YtiknhkkeifemcaaGreatDoorTie
namespace Go.Proofs.YtiknhkkeifemcaaGreatDoor
open Go.ChangeShapes Go.WideShapes Go.ChangeAt Go.RowKit Go.Shelf

theorem JwAt.rows {W : World} {base wk ak mk : Nat} {rv cv : Value} {A : Option Addr} {L pay : Int} {enc : List Int} (h : JwAt base wk ak mk rv cv A L enc pay W) : ∀ r, rowOf A = some r → base ≤ r := by
  rcases h with ⟨_, _, h, _⟩ | ⟨_, _, _, _, _, _, h, _⟩
  · exact fun r hr => (h.arena.own.row r hr).1
  · exact fun r hr => (h.arena.own.row r hr).1
def NmAt (D : Nat → Prop) (base wk ak mk : Nat) (rv cv : Value) (rs : List (SRec × Value)) (cs : List (SCho × Value)) (N : Nat) (want : Value) (W wr : World) : Prop :=
  ∃ (A : Option Addr) (enc : List Int) (pay : Int), want = .string (strOfNums enc) ∧ JwAll D (fun _ => False) wr base wk ak mk rv cv A 1099511627776 enc pay rs cs ∧ pay ≤ 20 * enc.length ∧ enc.length ≤ N ∧ Below W.heap.size W wr
theorem jwto_below {D Dv : Nat → Prop} {W w w' : World} {base wk ak mk : Nat} {rv cv : Value} {A : Option Addr} {L pay pay' : Int} {enc enc' : List Int} {rs : List (SRec × Value)} {cs : List (SCho × Value)} (h : JwAll D Dv w base wk ak mk rv cv A L enc pay rs cs) (hb : Below W.heap.size W w) (hR : W.heap.size ≤ base ∧ W.heap.size ≤ ak ∧ W.heap.size ≤ mk) (ht : JwTo base wk ak mk rv cv A L enc' pay' w w') : ∃ A', JwAll D Dv w' base wk ak mk rv cv A' L enc' pay' rs cs ∧ Below W.heap.size W w' ∧ OutD Dv w w' := by
  obtain ⟨A', h1, hx⟩ := h.to ht
  have hl := h.at_.lts
  have he := exc_fx hb hx (by have := hl.2.2.2.2; omega) hR.2.1 (fun r hr => by have := h.at_.rows r hr; omega)
  exact ⟨A', h1, ⟨he.os, he.tape, he.output, he.size, fun j hj => he.block j hj (by omega)⟩, (h.seen.step hx).2⟩
theorem num_kind {k : Nat} (h1 : 1 ≤ k) (h2 : k ≤ 13) : (isNumP k 0 = true → k ≤ 10 ∧ sortP k 0 = 1) := by
  have : ∀ k, k ≤ 13 → 1 ≤ k → isNumP k 0 = true → k ≤ 10 ∧ sortP k 0 = 1 := by decide
  exact this k h2 h1
theorem numok_of {es : List (SCho × Value)} {k ref z : Nat} (h : fitsT (es.map Prod.fst) k (ref : Nat) 0 z = true) (hn : ∀ q ∈ es, ∀ s ∈ q.1.names, s.size ≤ 1000) : NumOk es k ref z := by
  unfold fitsT at h
  split at h
  · cases h
  refine ⟨fun h1 => ?_, fun h10 => ?_⟩
  · rw [if_pos h1] at h
    exact of_decide_eq_true h
  · subst h10
    rw [if_neg (by decide), if_pos rfl, Bool.and_eq_true] at h
    have h1 := of_decide_eq_true h.1
    have h2 := of_decide_eq_true h.2
    rw [List.length_map] at h1
    have hr : ref < es.length := by omega
    rw [Int.toNat_natCast, List.getD, List.getElem?_map, List.getElem?_eq_getElem hr] at h2
    have h3 : z < es[ref].1.names.length := h2
    exact ⟨hr, h3, Nat.le_trans (hn _ (List.getElem_mem hr) _ (List.getElem_mem h3)) (by decide)⟩
set_option maxRecDepth 100000 in
set_option maxHeartbeats 16000000 in
theorem jwnum_go (p : Plan) {a0 a1 : Option Addr} {n0 e0 n1 c1 : Nat} (num : Nat) (hnu : num ≤ 18446744073709551615) (w : World) (hp : IsPlan w p a0 n0 e0 a1 n1 c1) (hT : PowT w) :
    Calls Tryz.prog 11 #[.agg #[.slice a0 n0 e0, .slice a1 n1 c1, .int .u8 p.root, .bool p.tree], .int .u64 num] w fun e w' => e = .returned (.bool true) ∧ Below w.heap.size w w' := by
  have hb1 := (Below.refl w.heap.size w).alloc (Nat.le_refl _) (.cells #[.slice a0 n0 e0, .slice a1 n1 c1, .int .u8 p.root, .bool p.tree] 25)
  have HP := Lib.hid (hp.below hb1)
  have HT := Lib.hid (hT.below hb1)
  have HB0 := Lib.hid hb1
  have HQ1 := Lib.hid (heap_alloc_new w (.cells #[.slice a0 n0 e0, .slice a1 n1 c1, .int .u8 p.root, .bool p.tree] 25))
  clear hp hT hb1
  go_enter Tryz.func11, Tryz.ntmps11
  go_upto_region 1 with (fail)
  generalize w.alloc (.cells #[.slice a0 n0 e0, .slice a1 n1 c1, .int .u8 p.root, .bool p.tree] 25) = W0 at *
  go_wp2_with fail
  refine (awake15_any W0 HT.out).mono ?_
  rintro e W1 ⟨rfl, hb1⟩
  have HB1 := Lib.hid (HB0.out.trans (hb1.mono HB0.out.size))
  have HB01 := Lib.hid hb1
  have HQ11 := Lib.hid (blk_below HQ1.out hb1 (blk_lt HQ1.out))
  clear hb1 HB0 HQ1
  obtain ⟨_, y0', y1', y2', y3'⟩ := blk4p HQ11.out
  go_wp2_with fail
  refine (made_any p W1 (HP.out.below HB01.out)).mono ?_
  rintro e W2 ⟨hb2, hpost⟩
  have HB2 := Lib.hid (HB1.out.trans (hb2.mono HB1.out.size))
  have HB02 := Lib.hid (HB01.out.trans (hb2.mono HB01.out.size))
  clear hb2 y0' y1' y2' y3' HQ11 HB1 HB01
  rcases hpost with ⟨hok, ss, es, sv, ev, rfl, hss, hes, hr⟩ | ⟨hno, rfl⟩
  · obtain ⟨sa, sc, ea, ec, rfl, rfl⟩ := hr.forms
    have hlen := made_len hok hss
    have hm := made_schM hok (plan_nums HP.out) hss hes
    have HSM := Lib.hid hm
    have HJK := Lib.hid (made_jwok hok hss hes hm)
    have hrt : p.root % p.structs.length < ss.length := by rw [hlen.2.2]; exact Nat.mod_lt _ (by omega)
    have HRT := Lib.hid hrt
    have HR := Lib.hid hr
    have HLE : Hid (ss.length ≤ 16) := Lib.hid hlen.2.1
    have HNK : Hid (NamOk (ss.map Prod.fst) (es.map Prod.fst)) := Lib.hid (by rw [hss, hes]; exact made_namok hok)
    clear hok hss hes hr hlen hrt hm
    generalize p.root % p.structs.length = rt at *
    go_upto_region 4 with (fail)
    have hba : Below W2.heap.size W2 (W2.alloc (.cells #[.slice sa ss.length sc, .slice ea es.length ec, .int .i64 rt] 30)) := (Below.refl _ _).alloc (Nat.le_refl _) _
    have HZ := Lib.hid (heap_alloc_new W2 (.cells #[.slice sa ss.length sc, .slice ea es.length ec, .int .i64 rt] 30))
    have HB3 := Lib.hid (HB2.out.trans (hba.mono HB2.out.size))
    have HB03 := Lib.hid (HB02.out.trans (hba.mono HB02.out.size))
    have HR3 := Lib.hid (HR.out.below hba)
    clear hba HR HB2 HB02
    generalize W2.alloc (.cells #[.slice sa ss.length sc, .slice ea es.length ec, .int .i64 rt] 30) = W3 at *
    generalize W2.heap.size = Z at *
    obtain ⟨_, z0, z1, z2, _⟩ := blk3 HZ.out
    go_upto_region 6 with (fail)
    refine wp_region_noPanic ?_
    refine wp_region_held_drew (S := (fun w' => w'.cell? ⟨Z, 0, none⟩ = some (.slice sa ss.length sc) ∧ w'.cell? ⟨Z, 1, none⟩ = some (.slice ea es.length ec) ∧ w'.cell? ⟨Z, 2, none⟩ = some (.int .i64 rt))) (by kernel_rfl) ⟨z0, z1, z2⟩ ?_
    intro hS
    refine wpAnyH_take (i := 0) (v := .agg #[.slice sa ss.length sc, .slice ea es.length ec, .int .i64 rt]) rfl (by kernel_rfl) (by kernel_rfl) (by kernel_rfl) (fun _ _ _ h => h) (Or.inl ⟨by rfl, ?_⟩) hS ?_
    · intro w' hSw
      obtain ⟨z0, z1, z2⟩ := hSw
      go_simp
    simp only [Act.put, List.getElem_toArray, List.getElem_cons_zero, List.setIfInBounds_toArray, List.set_cons_zero, List.set_cons_succ]
    refine wpAnyH_ready (rs := [1]) (by kernel_rfl) (by decide) (AllReadyH.cons rfl (fun K hK => ?_) AllReadyH.nil)
    rw [if_pos (by kernel_rfl)]
    go_simp
    refine (enough15_any W3.drew).mono ?_
    rintro e W4 ⟨rfl, hm4, hb4⟩
    have HB34 : Hid (Below W3.heap.size W3 W4) := Lib.hid ((Below.refl _ W3).drew.trans hb4)
    have HM4 := Lib.hid hm4
    have hz4 := blk_below HZ.out HB34.out (blk_lt HZ.out)
    refine hK.out _ _ ⟨(blk3 hz4).2.1, (blk3 hz4).2.2.1, (blk3 hz4).2.2.2.1⟩ (fun hS => ?_)
    clear hm4 hb4 hz4 hK K
    refine wpAnyH_ready (rs := [2]) (by kernel_rfl) (by decide) (AllReadyH.cons rfl (fun K hK => ?_) AllReadyH.nil)
    rw [if_pos (by kernel_rfl)]
    go_simp
    refine (jwnew_any (r := rt) (HR3.out.below HB34.out) HJK.out (HT.out.below (HB03.out.trans (HB34.out.mono HB03.out.size))) HM4.out).mono ?_
    rintro e W5 ⟨rs, cs, rv, cv, wk, ak, B, rfl, hrs, hcs, hst, hctx, hak, hb5⟩
    have hs4 := HB34.out.size
    have HB35 := Lib.hid (HB34.out.trans (hb5.mono hs4))
    have hz5 := blk_below HZ.out HB35.out (blk_lt HZ.out)
    have HZ5 := Lib.hid hz5
    have HCS := Lib.hid hcs
    have HLW : Hid (W3.heap.size ≤ W4.heap.size ∧ W3.heap.size ≤ ak ∧ W3.heap.size ≤ W3.drew.heap.size) := Lib.hid ⟨hs4, Nat.le_trans hs4 hak, Nat.le_refl _⟩
    have HNM0 : Hid (NmAt (DJ W4.heap.size B) W4.heap.size wk ak W3.drew.heap.size rv cv rs cs 0 (.string (strOfNums [])) W3 W5) := Lib.hid ⟨none, [], 0, rfl, ⟨.inl ⟨0, 1099511627776, hst, by decide, by decide, by decide⟩, hctx, ⟨fun _ h => h.elim, ⟨fun h => h, fun h => h, fun h => h, fun _ _ h => h⟩⟩⟩, by decide, by decide, HB35.out⟩
    refine hK.out _ _ ⟨(blk3 hz5).2.1, (blk3 hz5).2.2.1, (blk3 hz5).2.2.2.1⟩ (fun hS => ?_)
    clear hrs hcs hst hctx hak hb5 hz5 hs4 hK K z0 z1 z2
    refine wpAnyH_take (i := 3) (v := .pointer (some ⟨wk, 0, none⟩)) rfl (by kernel_rfl) (by kernel_rfl) (by kernel_rfl) (fun _ _ _ h => h) (Or.inl ⟨by rfl, ?_⟩) hS ?_
    · intro w' hSw
      obtain ⟨z0, z1, z2⟩ := hSw
      go_simp
    simp only [Act.put, List.getElem_toArray, List.getElem_cons_succ, List.getElem_cons_zero, List.setIfInBounds_toArray, List.set_cons_zero, List.set_cons_succ]
    refine wpAnyH_done (by kernel_rfl) ?_ _
    refine NoPanic.normal ?_
    try simp only [Exit.then]
    obtain ⟨_, z0, z1, z2, _⟩ := blk3 HZ5.out
    go_wp2_with fail
    clear z0 z1 z2
    go_loopw [8, 31] (fun want i wr => ∃ j : Nat, i = .int .i64 j ∧ j ≤ ss.length ∧ NmAt (DJ W4.heap.size B) W4.heap.size wk ak W3.drew.heap.size rv cv rs cs (400 * j) want W3 wr) (fun _ i _ => ss.length - (intOf i).toNat)
    case atStart => exact ⟨0, rfl, Nat.zero_le _, HNM0.out⟩
    case round =>
      obtain ⟨j, rfl, hj, hnm⟩ := hrel
      obtain ⟨WO, rfl⟩ : ∃ WO, WO = wr := ⟨_, rfl⟩
      obtain ⟨A, enc, pay, rfl, hall, hp, hel, hbel⟩ := hnm
      have HALL := Lib.hid hall
      have HPAY := Lib.hid (And.intro hp hel)
      have HBEL := Lib.hid hbel
      clear hall hp hel hbel HNM0
      by_cases hjl : j < ss.length
      · have hji : (j : Int) < ss.length := by omega
        have hji0 : ¬ (j : Int) < 0 := by omega
        have hji2 : ¬ (ss.length : Int) ≤ j := by omega
        obtain ⟨g, c, fa, fc, hv, hcc, hg, x0, x1, hfv⟩ := (HR3.out.below HBEL.out).strct j hjl
        obtain ⟨rfl, rfl⟩ := slice_inj hv
        have HFLD : Hid (∀ W, Below W3.heap.size W3 W → ∀ i (hi : i < ss[j].1.fields.length), ∃ gf, fa = some ⟨gf, 0, none⟩ ∧ W.cell? ⟨gf, i * 5, none⟩ = some (.string (ss[j].1.fields[i]).name) ∧ W.cell? ⟨gf, i * 5 + 1, none⟩ = some (.int .u8 ((ss[j].1.fields[i]).kind : Nat)) ∧ W.cell? ⟨gf, i * 5 + 2, none⟩ = some (.int .i64 ((ss[j].1.fields[i]).ref : Nat)) ∧ W.cell? ⟨gf, i * 5 + 3, none⟩ = some (.int .i64 ((ss[j].1.fields[i]).lists : Nat)) ∧ W.cell? ⟨gf, i * 5 + 4, none⟩ = some (.int .u64 ((ss[j].1.fields[i]).dflt : Nat))) := Lib.hid (fun W hb i hi => by
          obtain ⟨gf, cf, e1, _, _, c0, c1, c2, c3, c4⟩ := (HR3.out.below hb).field j hjl i hi
          rw [hfv] at e1
          injection e1 with e1 _ _
          exact ⟨gf, e1, c0, c1, c2, c3, c4⟩)
        have HTY : Hid (∀ i (hi : i < ss[j].1.fields.length), TyM ss.length (es.map Prod.fst) (ss[j].1.fields[i]).kind (ss[j].1.fields[i]).ref (ss[j].1.fields[i]).lists ∧ (ss[j].1.fields[i]).ref ≤ 1000000) := Lib.hid (fun i hi => ⟨((HSM.out.2 _ (List.getElem_mem hjl)).2 _ (List.getElem_mem hi)).1, ((HJK.out.flds _ (List.getElem_mem hjl)).2.2 _ (List.getElem_mem hi)).2.2.2.1⟩)
        have HFS : Hid (ss[j].1.fields.length ≤ 16) := Lib.hid (HSM.out.2 _ (List.getElem_mem hjl)).1
        clear hv hfv
        generalize ss[j].1.fields = fs at *
        generalize ss[j].1.name = nm at *
        have hba : Below WO.heap.size WO (WO.alloc (.cells #[.string nm, .slice fa fs.length fc] 63)) := (Below.refl _ _).alloc (Nat.le_refl _) _
        obtain ⟨_, y0, y1, _⟩ := blk2 (heap_alloc_new WO (.cells #[.string nm, .slice fa fs.length fc] 63))
        have HNM6 : Hid (NmAt (DJ W4.heap.size B) W4.heap.size wk ak W3.drew.heap.size rv cv rs cs (400 * j + 25 * 0) (.string (strOfNums enc)) W3 (WO.alloc (.cells #[.string nm, .slice fa fs.length fc] 63))) := Lib.hid ⟨A, enc, pay, rfl, HALL.out.below hba, HPAY.out.1, HPAY.out.2, HBEL.out.trans (hba.mono HBEL.out.size)⟩
        clear hba HALL HPAY HBEL
        go_upto_region 11 with (fail)
        generalize WO.alloc (.cells #[.string nm, .slice fa fs.length fc] 63) = W6 at *
        clear x0 x1
        go_wp2_with fail
        clear y0 y1
        go_loopw [8, 38] (fun want i wr => ∃ k : Nat, i = .int .i64 k ∧ k ≤ fs.length ∧ NmAt (DJ W4.heap.size B) W4.heap.size wk ak W3.drew.heap.size rv cv rs cs (400 * j + 25 * k) want W3 wr) (fun _ i _ => fs.length - (intOf i).toNat)
        case atStart => exact ⟨0, rfl, Nat.zero_le _, HNM6.out⟩
        case round =>
          obtain ⟨k, rfl, hk, A, enc, pay, rfl, hall, hp, hel, hbel⟩ := hrel
          have HALL := Lib.hid hall
          have HPAY := Lib.hid (And.intro hp hel)
          have HBEL := Lib.hid hbel
          clear hall hp hel hbel HNM6
          by_cases hkl : k < fs.length
          · have hki : (k : Int) < fs.length := by omega
            have hki0 : ¬ (k : Int) < 0 := by omega
            have hki2 : ¬ (fs.length : Int) ≤ k := by omega
            obtain ⟨gf, rfl, f0, f1, f2, f3, f4⟩ := HFLD.out wr HBEL.out k hkl
            have HTK := Lib.hid (HTY.out k hkl)
            generalize fs[k] = f at *
            obtain ⟨fn, fk, fr, fl, fd⟩ := f
            simp only at f0 f1 f2 f3 f4
            go_upto_region 15 with (fail)
            have hba : Below wr.heap.size wr (wr.alloc (.cells #[.string fn, .int .u8 (fk : Nat), .int .i64 (fr : Nat), .int .i64 0, .int .u64 (fd : Nat)] 60)) := (Below.refl _ _).alloc (Nat.le_refl _) _
            have HQ7 := Lib.hid (heap_alloc_new wr (.cells #[.string fn, .int .u8 (fk : Nat), .int .i64 (fr : Nat), .int .i64 0, .int .u64 (fd : Nat)] 60))
            have hl := HALL.out.at_.lts
            have HA7 : Hid (JwAll (DJ W4.heap.size B) (fun q => q = wr.heap.size) (wr.alloc (.cells #[.string fn, .int .u8 (fk : Nat), .int .i64 (fr : Nat), .int .i64 0, .int .u64 (fd : Nat)] 60)) W4.heap.size wk ak W3.drew.heap.size rv cv A 1099511627776 enc pay rs cs) := Lib.hid ⟨HALL.out.at_.below hba, HALL.out.ctx.step (.of_below A hba), ⟨fun q (hq : q = wr.heap.size) => by rw [hq, World.size_alloc]; omega, fun (h : wk = wr.heap.size) => by omega, fun (h : ak = wr.heap.size) => by omega, fun (h : W3.drew.heap.size = wr.heap.size) => by omega, fun r hr (h : r = wr.heap.size) => by have := hl.2.2.2.1 r hr; omega⟩⟩
            have HB37 := Lib.hid (HBEL.out.trans (hba.mono HBEL.out.size))
            clear hba hl HALL HBEL HFLD f0 f1 f2 f3 f4
            generalize wr.alloc (.cells #[.string fn, .int .u8 (fk : Nat), .int .i64 (fr : Nat), .int .i64 0, .int .u64 (fd : Nat)] 60) = W7 at *
            generalize wr.heap.size = b7 at *
            obtain ⟨c0, c1, c2, c3, c4⟩ := blk5q HQ7.out
            have hk1 := IntWalk.i64_in ((k : Int) + 1) (by have := HFS.out; omega)
            have hlo : 1 ≤ fk := HTK.out.1.lo
            have hhi : fk ≤ 13 := HTK.out.1.hi
            by_cases hin : isNumP fk 0 = true
            · have HIN : Hid (∀ W, Calls Tryz.prog 30 #[.agg #[.int .u8 fk, .int .i64 fr, .int .i64 0]] W fun e w' => e = .returned (.bool true) ∧ Below W.heap.size W w') := Lib.hid (fun W => by
                have h := isnum_any fk fr 0 W (by omega)
                rw [hin] at h
                exact h)
              obtain ⟨hk10, hsrt⟩ := num_kind hlo hhi hin
              clear hin
              have HK := Lib.hid (And.intro (And.intro hlo hk10) hsrt)
              go_wp2_with fail
              refine (HIN.out _).mono ?_
              rintro e W8 ⟨rfl, hb8⟩
              have HQ8 := Lib.hid (blk_below HQ7.out hb8 (blk_lt HQ7.out))
              have HB38 := Lib.hid (HB37.out.trans (hb8.mono HB37.out.size))
              have HA8 := Lib.hid (HA7.out.below hb8)
              clear hb8 HQ7 HB37 HA7 HIN c0 c1 c2 c3 c4 hsrt
              obtain ⟨c0, c1, c2, c3, c4⟩ := blk5q HQ8.out
              obtain ⟨_, z0, z1, z2, _⟩ := blk3 (blk_below HZ.out HB38.out (blk_lt HZ.out))
              go_wp2_with fail
              refine (hnum_any fk fr num rt W8 (HR3.out.below HB38.out) ⟨hlo, hk10, fun h => HTK.out.1.en h⟩ (by omega)).mono ?_
              rintro e W9 ⟨⟨x, rfl, hx, hfit⟩, hb9⟩
              have HQ9 := Lib.hid (blk_below HQ8.out hb9 (blk_lt HQ8.out))
              have HB39 := Lib.hid (HB38.out.trans (hb9.mono HB38.out.size))
              have HA9 := Lib.hid (HA8.out.below hb9)
              have HOK := Lib.hid (numok_of hfit (fun q hq s hs => (HJK.out.nams q hq).2 s hs))
              have HX : Hid (x ≤ maxU) := Lib.hid (by have hmx : maxU = 18446744073709551615 := rfl; omega)
              clear hb9 hfit HQ8 HB38 HA8 c0 c1 c2 c3 c4 z0 z1 z2 hx
              obtain ⟨c0, c1, c2, c3, c4⟩ := blk5q HQ9.out
              go_wp2_with fail
              refine (jnum_any HA9.out fk fr 0 HK.out.2 HTK.out.2 x HX.out).mono ?_
              rintro e W10 ⟨rfl, ht10⟩
              obtain ⟨A2, ha10, hb10, ho10⟩ := jwto_below HA9.out HB39.out HLW.out ht10
              have HA10 := Lib.hid ha10
              have HB10 := Lib.hid hb10
              have HQ10 := Lib.hid ((ho10.block b7 rfl).trans HQ9.out)
              clear ht10 ha10 hb10 ho10 HA9 HB39 HQ9 c0 c1 c2 c3 c4
              go_wp2_with fail
              refine (jputs_any HA10.out.at_ ⟨#[32]⟩ (by decide)).mono ?_
              rintro e W11 ⟨rfl, ht11⟩
              obtain ⟨A3, ha11, hb11, ho11⟩ := jwto_below HA10.out HB10.out HLW.out ht11
              have HA11 := Lib.hid ha11
              have HB11 := Lib.hid hb11
              have HQ11 := Lib.hid ((ho11.block b7 rfl).trans HQ10.out)
              clear ht11 ha11 hb11 ho11 HA10 HB10 HQ10
              obtain ⟨c0, c1, c2, c3, c4⟩ := blk5q HQ11.out
              obtain ⟨_, z0, z1, z2, _⟩ := blk3 (blk_below HZ.out HB11.out (blk_lt HZ.out))
              have hnl := numJ_len HNK.out fk (fr : Int) x
              have HNL := Lib.hid hnl
              obtain ⟨T, hT⟩ : ∃ T, numJ (es.map Prod.fst) fk fr x = T := ⟨_, rfl⟩
              rw [hT] at hnl
              have HTT := Lib.hid hT
              have hEL := HPAY.out.2
              have hjk : enc.length ≤ 100000 := by have h1 := HLE.out; have h2 := HFS.out; omega
              have hd1 : (strOfNums T).size = T.length := strOfNums_size T
              have hd2 : (strOfNums enc).size = enc.length := strOfNums_size enc
              have hn1 : ¬ 9223372036854775807 < (strOfNums T).size + (⟨#[32]⟩ : ByteArray).size := by rw [hd1]; show ¬ 9223372036854775807 < T.length + 1; omega
              have hn2 : ¬ 9223372036854775807 < (strOfNums enc).size + ((strOfNums T) ++ (⟨#[32]⟩ : ByteArray)).size := by rw [ByteArray.size_append, hd1, hd2]; show ¬ 9223372036854775807 < enc.length + (T.length + 1); omega
              have HSTR : Hid (strOfNums enc ++ (strOfNums T ++ ⟨#[32]⟩) = strOfNums (enc ++ numJ (jChos cs) fk fr x ++ bts ⟨#[32]⟩)) := Lib.hid (by
                rw [HCS.out, hT, bk_strOf_app, bk_strOf_app, bk_strOf_bts', ByteArray.append_assoc])
              have HRN : Hid (Calls Tryz.prog 34 #[.agg #[.slice (some ⟨g, 0, none⟩) ss.length sc, .slice ea es.length ec, .int .i64 rt], .agg #[.int .u8 fk, .int .i64 fr, .int .i64 0], .agg #[.int .u64 x, .slice none 0 0, .slice none 0 0, .bool false]] W11 fun e w' => e = .returned (.string (strOfNums T)) ∧ Below W11.heap.size W11 w') := Lib.hid (by
                rw [← hT]
                exact renc_num (HR3.out.below HB11.out) rt fk fr x HK.out.1 HX.out HOK.out none none 0 0 0 0 false)
              clear hT hd1 hd2 hnl hEL hjk HOK
              go_wp2_with fail
              refine HRN.out.mono ?_
              rintro e W12 ⟨rfl, hb12⟩
              have HNEXT : Hid (NmAt (DJ W4.heap.size B) W4.heap.size wk ak W3.drew.heap.size rv cv rs cs (400 * j + 25 * (k + 1)) (.string (strOfNums enc ++ (strOfNums T ++ ⟨#[32]⟩))) W3 W12) := Lib.hid ⟨A3, _, _, by rw [HSTR.out], ⟨HA11.out.at_.below hb12, HA11.out.ctx.step (.of_below A3 hb12), ⟨fun _ h => h.elim, ⟨fun h => h, fun h => h, fun h => h, fun _ _ h => h⟩⟩⟩, by
                have h1 := HPAY.out.1
                rw [List.length_append, List.length_append]
                show pay + 20 * _ + ((1 : Nat) : Int) ≤ _
                have hb1 : (bts ⟨#[32]⟩).length = 1 := by rw [bts_length]; rfl
                omega, by
                have h1 := HPAY.out.2
                have h2 := HNL.out
                rw [← HCS.out] at h2
                have hb1 : (bts ⟨#[32]⟩).length = 1 := by rw [bts_length]; rfl
                rw [List.length_append, List.length_append]
                omega, HB11.out.trans (hb12.mono HB11.out.size)⟩
              clear hb12 HRN HA11 HB11 HQ11 c0 c1 c2 c3 c4 z0 z1 z2 HSTR HTT HNL
              go_wp2
              go_roundw
              case rel => exact ⟨k + 1, by go_num, by omega, HNEXT.out⟩
              case measure => simp [intOf]; omega
            · have HIN : Hid (∀ W, Calls Tryz.prog 30 #[.agg #[.int .u8 fk, .int .i64 fr, .int .i64 0]] W fun e w' => e = .returned (.bool false) ∧ Below W.heap.size W w') := Lib.hid (fun W => by
                have h := isnum_any fk fr 0 W (by omega)
                rw [Bool.eq_false_iff.2 hin] at h
                exact h)
              clear hin
              go_wp2_with fail
              refine (HIN.out _).mono ?_
              rintro e W8 ⟨rfl, hb8⟩
              have HNEXT : Hid (NmAt (DJ W4.heap.size B) W4.heap.size wk ak W3.drew.heap.size rv cv rs cs (400 * j + 25 * (k + 1)) (.string (strOfNums enc)) W3 W8) := Lib.hid ⟨A, enc, pay, rfl, ⟨HA7.out.at_.below hb8, HA7.out.ctx.step (.of_below A hb8), ⟨fun _ h => h.elim, ⟨fun h => h, fun h => h, fun h => h, fun _ _ h => h⟩⟩⟩, HPAY.out.1, by have := HPAY.out.2; omega, HB37.out.trans (hb8.mono HB37.out.size)⟩
              clear hb8 HIN HA7 HB37 HQ7 c0 c1 c2 c3 c4
              go_wp2
              go_roundw
              case rel => exact ⟨k + 1, by go_num, by omega, HNEXT.out⟩
              case measure => simp [intOf]; omega
          · have hkn : k = fs.length := by omega
            have hki : ¬ (k : Int) < fs.length := by omega
            have hj1 := IntWalk.i64_in ((j : Int) + 1) (by have := HLE.out; omega)
            have HNEXT : Hid (NmAt (DJ W4.heap.size B) W4.heap.size wk ak W3.drew.heap.size rv cv rs cs (400 * (j + 1)) (.string (strOfNums enc)) W3 wr) := Lib.hid ⟨A, enc, pay, rfl, HALL.out, HPAY.out.1, by have h1 := HPAY.out.2; have h2 := HFS.out; omega, HBEL.out⟩
            clear hkn HFLD HTY HALL HPAY HBEL
            go_wp2
            go_roundw
            case rel => exact ⟨j + 1, by go_num, by omega, HNEXT.out⟩
            case measure => simp [intOf]; omega
      · have hjn : j = ss.length := by omega
        have hji : ¬ (j : Int) < ss.length := by omega
        have HLN : Hid (enc.length ≤ 6400) := Lib.hid (by have h1 := HPAY.out.2; have h2 := HLE.out; omega)
        have HD := Lib.hid (jdone_any HALL.out.at_)
        clear hjn
        go_wp2_with fail
        refine HD.out.mono ?_
        rintro e W7 hd
        cases hd with
        | form _ gd hgd ho h1 hx =>
          have HE := Lib.hid (HB3.out.trans ((HBEL.out.trans (hx.mono HBEL.out.size)).mono HB3.out.size))
          have cv := ho.str (P := Tryz.prog) 22 9 Tryz.underlying22 Tryz.underlying5 Tryz.underlying9
          clear hgd ho h1 hx HD
          go_wp2
          go_ret
          exact ⟨rfl, HE.out⟩
        | large _ h1 hx => exact absurd h1 (by have := HLN.out; omega)
        | poor _ h1 hx => exact absurd h1 (by have h2 := HLN.out; have h3 := HPAY.out.1; omega)
  · go_wp2
    go_ret
    exact ⟨rfl, HB2.out.alloc (by have := HB2.out.size; omega) _⟩
theorem jsonwriteNumbers_walk (p : Plan) (n : Int) {a0 a1 : Option Addr} {n0 e0 n1 c1 : Nat} (w : World) (hp : IsPlan w p a0 n0 e0 a1 n1 c1) (h2 : (Lit.int .u64 n).wf = true) (hT : PowT w) :
    Calls Tryz.prog 11 #[.agg #[.slice a0 n0 e0, .slice a1 n1 c1, .int .u8 p.root, .bool p.tree], .int .u64 n] w fun e w' => e = .returned (.bool true) ∧ Below w.heap.size w w' := by
  have hb := bounds_u64 h2
  obtain ⟨m, rfl⟩ : ∃ m : Nat, n = m := ⟨n.toNat, by omega⟩
  exact jwnum_go p m (by omega) w hp hT
end Go.Proofs.YtiknhkkeifemcaaGreatDoor
namespace Go.Proofs.YtiknhkkeifemcaaGreatDoor
open Go.ChangeShapes Go.WideShapes Go.ChangeAt Go.RowKit
open Go.ChangeMaps (open_string shut_string)
namespace jsonwriteNumbersFrame
theorem laid_met (os : Os) : laidMet Tryz.prog Rows.jsonwriteNumbersRow.laid ((laidWorld os).forCall (fun _ _ => 0) ⟨#[], #[Value.agg #[Value.slice none 0 0, Value.slice none 0 0, Value.int .u8 0, Value.bool false], Value.int .u64 0], []⟩).memory :=
  laid3_met os _
theorem reads (os : Os) {H : Type} (enc : TypeId × Value → H) : ∃ places, DataW.whole enc Tryz.prog ((laidWorld os).forCall (fun _ _ => 0) ⟨#[], #[Value.agg #[Value.slice none 0 0, Value.slice none 0 0, Value.int .u8 0, Value.bool false], Value.int .u64 0], []⟩).memory Tryz.f11.params.toList Rows.jsonwriteNumbersSpec.vars false #[Value.agg #[Value.slice none 0 0, Value.slice none 0 0, Value.int .u8 0, Value.bool false], Value.int .u64 0].toList 8 = some ([.agg [.nil, .nil, .lit (.int .u8 0), .lit (.bool false)], .lit (.int .u64 0)], [], places) :=
  ⟨[], by kernel_rfl⟩
set_option maxRecDepth 100000 in
theorem contract (H : Type) (enc : TypeId × Value → H) (W : World) (base : Nat) (args : Array Value) (ds gs : List (DataW H)) (before : List MemPlace)
    (hval0 : ∀ (j : Nat) t v, Tryz.f11.params[j]? = some t → args[j]? = some v → Value.okWide Tryz.prog W .any base t v)
    (hW : DataW.Whole enc Tryz.prog Tryz.f11.params.toList Rows.jsonwriteNumbersSpec.vars false W args.toList ds gs before) (hL : laidMetH Tryz.prog Rows.jsonwriteNumbersRow.laid W) :
    Calls Tryz.prog 11 args W fun e W' => ∃ v, e = .returned v ∧ Rows.jsonwriteNumbersSpec.post enc Tryz.prog Tryz.f11 false true false false W args v W' := by
  have hval : ∀ (j : Nat) t v, Tryz.f11.params[j]? = some t → args[j]? = some v → Value.okWide Tryz.prog W .any base t v := hval0
  have hW' := hW
  obtain ⟨p, q, hA0, hV, rfl, _hfz, _hnd⟩ := hW
  have hA : DataW.TrodAll enc Tryz.prog W 0 (fun _ => true) true Tryz.f11.params.toList args.toList ds p := hA0
  rw [Tryz.params11] at hA hval
  obtain ⟨v0, vs0, d0, ds0, p0, q0, hargs, rfl, rfl, h0, r0⟩ := trodAll_cons hA
  obtain ⟨v1, vs1, d1, ds1, p1, q1, rfl, rfl, rfl, h1, r1⟩ := trodAll_cons r0
  obtain ⟨rfl, rfl, rfl⟩ := trodAll_nil r1
  obtain rfl : args = #[v0, v1] := by cases args; simp_all
  obtain ⟨rfl, rfl⟩ := trodVars_none hV
  have k0 := h0
  have lt0 : ∀ x ∈ p0, x.block < W.heap.size := by obtain ⟨m, hm⟩ := k0; exact DataW.trod_lt m _ _ _ hm
  obtain ⟨a0, _, _, _, _, _, _, rfl, w0⟩ := open_plan (hval 0 25 v0 rfl rfl) h0
  obtain ⟨a1, rfl, rfl, rfl, w1⟩ := open_int Tryz.underlying37 (hval 1 37 v1 rfl rfl) h1
  clear hA0 hval0
  refine (jsonwriteNumbers_walk a0 a1 W w0 w1 (powT_of_laid3 hL)).mono fun e W' ⟨he, bel⟩ => ?_
  subst he
  exact ⟨_, rfl, _, _, _, [], _, [], hW', trodAll_mk1 (shut_bool Tryz.underlying4 _), (trodAll_cons_mk (Below.trod laidOut (by kernel_rfl) (of_decide_eq_true (by kernel_rfl)) k0 bel lt0) (trodAll_cons_mk (shut_int Tryz.underlying37 w1) trodAll_mk0)), rfl, bel.frame _, fun h => by cases h⟩

set_option maxRecDepth 100000 in
theorem lifted (os : Os) (started : os.Started) (H : Type) (enc : TypeId × Value → H) (F : Stop.Interp) :
    ReturnsInHanded {} Tryz.checked os 11 .any ((OpenSpec.ofChange Rows.jsonwriteNumbersSpec).preRow enc Tryz.prog Tryz.f11 Rows.jsonwriteNumbersRow.domain false Rows.jsonwriteNumbersRow.laid) (((OpenSpec.ofChange Rows.jsonwriteNumbersSpec).at F).post enc Tryz.prog Tryz.f11 false true false false) := by
  obtain ⟨places, hx⟩ := reads os enc
  refine returnsInHanded_of_row (C := Tryz.checked) (s := OpenSpec.ofChange Rows.jsonwriteNumbersSpec) own started (by kernel_rfl) Tryz.func11
    (witness_row_at (enc := enc) (C := Tryz.checked) false (laidWorld os) #[Value.agg #[Value.slice none 0 0, Value.slice none 0 0, Value.int .u8 0, Value.bool false], Value.int .u64 0] rfl (by kernel_rfl) (by kernel_rfl) (by kernel_rfl)
      (OpenSpec.preRow_of_cond 8 hx (by kernel_rfl) (fun k hk => by cases hk) (by kernel_rfl) (laid_met os))) ?_
  intro W base args ds gs before hval hW _ _ _ hL _ _
  exact contract H enc W base args ds gs before hval hW hL
theorem j_na : (Rows.jsonwriteNumbersRow.named == Tryz.pinned.checked.prog.varsNamed 11) = true := by kernel_rfl
theorem j_in : (Rows.jsonwriteNumbersRow.inPlace == Tryz.pinned.checked.prog.inPlace 11) = true := by kernel_rfl
theorem j_un : (Rows.jsonwriteNumbersRow.unfollowed == Tryz.pinned.checked.prog.unfollowed 11) = true := by kernel_rfl
theorem j_re : (Rows.jsonwriteNumbersRow.recurses == Tryz.pinned.checked.prog.recurses 11) = true := by kernel_rfl
set_option maxRecDepth 100000 in
theorem closed : joinedFacts Tryz.pinned.checked.prog 11 Tryz.f11 (OpenSpec.ofChange Rows.jsonwriteNumbersSpec).bare Rows.jsonwriteNumbersRow = true := by
  unfold joinedFacts
  simp only [Bool.and_eq_true]
  repeat' refine And.intro ?_ ?_
  all_goals first | with_reducible exact j_na | with_reducible exact j_in | with_reducible exact j_un | with_reducible exact j_re | kernel_rfl
theorem said : Rows.JsonwriteNumbersSaid :=
  OpenClaim.holds_of_cond 11 Tryz.f11 rfl rfl rfl rfl rfl rfl rfl ⟨rfl, rfl, rfl, rfl, rfl⟩ rfl rfl rfl rfl rfl (by kernel_rfl) Tryz.func11 closed
    (of_decide_eq_true (by kernel_rfl)) (by unfold Func.isWrapper; first | (rw [if_pos (by decide +kernel)]; kernel_rfl) | (rw [if_neg (by decide +kernel)]; exact ⟨rfl, rfl⟩))
    (fun os started H enc _ F => by rw [OpenClaim.pre_eq_preRow]; exact lifted os started H enc F)
theorem plain (f : FuncId) (fn : Func) (hf : Tryz.pinned.checked.prog.funcNamed "transom/transomlaw15.JsonwriteNumbers" = some f) (hfn : Tryz.pinned.checked.prog.funcs[f]? = some fn) :
    true = Tryz.pinned.checked.prog.looks [] ∧ ∀ (j : Nat) t, fn.params[j]? = some t → Tryz.pinned.checked.prog.wantsStandIn t = false := by
  obtain rfl : f = 11 := Option.some.inj ((show Tryz.prog.funcNamed "transom/transomlaw15.JsonwriteNumbers" = some 11 by kernel_rfl).symm.trans hf) |>.symm
  obtain rfl : fn = Tryz.f11 := (Option.some.inj (Tryz.func11.symm.trans hfn)).symm
  refine ⟨by kernel_rfl, fun j t ht => ?_⟩
  rw [Tryz.params11] at ht
  have hm : t = 25 ∨ t = 37 := by simpa using Array.mem_of_getElem? ht
  rcases hm with rfl | rfl
  · exact (show Tryz.prog.wantsStandIn 25 = false by kernel_rfl)
  · exact (show Tryz.prog.wantsStandIn 37 = false by kernel_rfl)
end jsonwriteNumbersFrame
theorem jsonwriteNumbers_card : Rows.JsonwriteNumbersCardSaid :=
  Claim7.holds_tied_plain_at .later [] _ _ _ _ jsonwriteNumbersFrame.said (fun _ h => by cases h) (by kernel_rfl) (fun _ h => by cases h) jsonwriteNumbers_row_tie rfl ⟨rfl, rfl⟩ (by kernel_rfl) rfl jsonwriteNumbersFrame.plain (by kernel_rfl)
end Go.Proofs.YtiknhkkeifemcaaGreatDoor
