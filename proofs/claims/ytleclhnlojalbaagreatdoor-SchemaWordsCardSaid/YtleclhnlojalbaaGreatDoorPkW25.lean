/-
  The package schema's maker: field, one field of what is written. Conditions: those that each theorem names.
-/
import Derived.Test.YtleclhnlojalbaaGreatDoorPkW2
import Derived.Test.YtleclhnlojalbaaGreatDoorPkW7
import Derived.Test.YtleclhnlojalbaaGreatDoorPkW13
import Derived.Test.YtleclhnlojalbaaGreatDoorPkW20
import Derived.Test.YtleclhnlojalbaaGreatDoorPkW24
import Derived.Deep.RegionHeld3
namespace Go.Proofs.YtleclhnlojalbaaGreatDoor
open Go.ChangeShapes Go.WideShapes Go.ChangeAt Go.RowKit Go.Shelf

def RmCAt (w : World) (sv ev rv : Value) (re : List (RCho × Value)) (S : Nat) (c' : Act) (w' : World) : Prop :=
  ∃ (i : Nat) (es : List (SCho × Value)) (esv : Value), i ≤ re.length ∧ RmC w.heap.size S i c' ∧ RmKeep w sv ev rv w' ∧ SchAt S w' [] es (.slice none 0 0) esv 0 ∧ es.map Prod.fst = (re.take i).map (fun p => choOut p.1)
set_option maxRecDepth 100000 in
set_option maxHeartbeats 8000000 in
theorem rmc_wp {Q : Exit → Act → World → Prop} {c : Act} {w w0 : World} {rb S : Nat} {rs : List (RRec × Value)} {re : List (RCho × Value)} {rt : List Tok} {sv ev rv : Value} (h : RawRows rb w rs re rt sv ev rv) (hc : RmC w.heap.size S 0 c) (hk : RmKeep w sv ev rv w0)
    (hs : SchAt S w0 [] [] (.slice none 0 0) (.slice none 0 0) 0) (hSq : w.heap.size + 2 ≤ S) (hlen : ∀ p ∈ re, p.1.names.length ≤ 100) (hl8 : re.length ≤ 8)
    (hQ : ∀ c' w' es esv, RmC w.heap.size S re.length c' → RmKeep w sv ev rv w' → SchAt S w' [] es (.slice none 0 0) esv 0 → es.map Prod.fst = (re.map Prod.fst).map choOut → Q (.exit 12) c' w') :
    Code.wp Tryz.prog (Code.loop (loopsRm 6)) Q c w0 := by
  refine wp_loop (RmCAt w sv ev rv re S) (fun c' _ => re.length - (intOf (c'.tmps.getD 15 undef)).toNat) ⟨0, [], _, Nat.zero_le _, hc, hk, hs, rfl⟩ ?_
  clear hc hk hs
  rintro c wr ⟨i, es, esv, hi, hc, hk, hs, hes⟩
  have HRAW := Lib.hid h
  have HQ := Lib.hid hQ
  have HK := Lib.hid hk
  have HS := Lib.hid hs
  have HES := Lib.hid hes
  have HL := Lib.hid hlen
  have hesl : es.length ≤ 8 := by have := congrArg List.length hes; simp at this; omega
  obtain ⟨sa, sc, ea, ec, ra, rc, rfl, rfl, rfl⟩ := h.forms
  have hfe := row_few h.enums
  obtain ⟨u, rfl⟩ := hc.lit
  obtain ⟨_, p0, p1, p2, _⟩ := blk3 hk.raw
  have hbl : S < wr.heap.size := blk_lt hs.blk
  clear hc hQ hk hs hes h hlen
  conv => arg 2; whnf
  by_cases hlt : i < re.length
  · obtain ⟨g, cc, hv, hcc, hg, hcell⟩ := row_el choCells 3 (fun _ => rfl) (row_keep HK.out.bel HRAW.out.enums) i hlt
    obtain ⟨rfl, rfl⟩ := slice_inj hv
    have x0 : wr.cell? ⟨g, i * 3, none⟩ = some (.string (strOfNums re[i].1.name)) := hcell 0 (by omega)
    have HTK := Lib.hid (show (re.take (i + 1)).map (fun p => choOut p.1) = (re.take i).map (fun p => choOut p.1) ++ [choOut re[i].1] by
      rw [List.take_succ_eq_append_getElem hlt, List.map_append]; rfl)
    have HCO := Lib.hid (show choOut re[i].1 = ⟨strOfNums re[i].1.name, re[i].1.names.map tokT⟩ from rfl)
    have HLE := Lib.hid (HL.out _ (List.getElem_mem hlt))
    have hii : (i : Int) < re.length := by omega
    generalize hnm : strOfNums re[i].1.name = nm at *
    have hbt : Below wr.heap.size wr (wr.alloc (.cells #[.string nm, .slice none 0 0] 60)) := (Below.refl _ _).alloc (Nat.le_refl _) _
    have HBT := Lib.hid hbt
    have HT := Lib.hid (heap_alloc_new wr (.cells #[.string nm, .slice none 0 0] 60))
    have HKT := Lib.hid (HK.out.below hbt (by omega))
    clear hv hcell hbt hnm
    go_upto_region 41 with (fail)
    generalize wr.alloc (.cells #[.string nm, .slice none 0 0] 60) = Wt at *
    clear x0 p0 p1 p2
    go_wp2_with fail
    refine rmc2_wp (i := i) (T := wr.heap.size) HRAW.out ⟨rfl, rfl, rfl, rfl, rfl, rfl, rfl, rfl⟩ HKT.out hlt HT.out (by omega) HLE.out ?_
    intro c2 w2 nv hf hbel hC2 hrow2
    generalize hln : re[i].1.names.length = ln at *
    have HLN := Lib.hid hln
    obtain ⟨nva, nvc, rfl⟩ := ownsRow_form hrow2
    have hb3 : Below wr.heap.size wr w2 := HBT.out.trans (hbel.mono (by have := HBT.out.size; omega))
    have hs2 := HS.out.below hb3
    have HS2 := Lib.hid hs2
    have HK2 := Lib.hid (HK.out.below hb3 (by omega))
    have HROW := Lib.hid hrow2
    obtain ⟨_, z0, z1, z2, f0, f1, f2⟩ := blk3 hs2.blk
    obtain ⟨hCl, d0, d1, _⟩ := blk2 hC2
    obtain ⟨eva, evc, rfl⟩ := ownsRow_form hs2.rows.enums
    obtain ⟨i0, hi0, hzz0, hzz1, hzz2⟩ := info_parts scho_info
    have I1 := Lib.hid hi0
    have I2 := Lib.hid hzz0
    have I3 := Lib.hid hzz1
    have I4 := Lib.hid hzz2
    have hbs : S < w2.heap.size := blk_lt hs2.blk
    have HBN := Lib.hid (heap_alloc_new w2 (.cells #[.string nm, .slice nva ln nvc] 60))
    have HBA := Lib.hid ((Below.refl w2.heap.size w2).alloc (Nat.le_refl _) (.cells #[.string nm, .slice nva ln nvc] 60))
    obtain ⟨u2, rfl⟩ := hf.lit
    clear hf hbel hC2 hrow2 hb3 hs2 hi0 hzz0 hzz1 hzz2 HS HK hln
    simp only [Exit.inBlock, Exit.then]
    apply_assumption
    go_wp2_with (at_builtin; refine wpList_append_own _ rfl (.tmp 216) (.tmp 218) 30 rfl (S + 1) 60 i0 _ 2 40 Tryz.underlying30 I1.out I2.out I3.out I4.out rfl (by decide) _ es.length (schosCells es) rfl (row_keep HBA.out HS2.out.rows.enums) _ 1 1 [.string nm, .slice nva ln nvc] rfl rfl (World.news_of_block HBN.out) (by intro u hu; simp at hu; rcases hu with rfl | rfl <;> rfl) (by unfold maxLen; omega) (by omega) (by simp; omega) ?_; intro v4 W8 hown4 hg4 hx; clear hx; obtain ⟨a4, m4, rfl⟩ := ownsRow_form hown4; have s5 := SchAt.enum (q := (⟨nm, re[i].1.names.map tokT⟩, .slice nva ln nvc)) (HS2.out.below HBA.out) (by have h := ownsRow_base (row_keep HBA.out HROW.out) (show S + 1 ≤ wr.heap.size + 1 by omega); show World.ownsRow _ _ _ _ _ (re[i].1.names.map tokT).length (strsCells (re[i].1.names.map tokT)); rw [List.length_map, HLN.out]; exact h) hg4 hown4; have s4 : W8.heap[S]? = some (.cells #[.slice none 0 0, .slice eva es.length evc, .int .i64 0] 32 (0, 0)) := (hg4.block S (by simp; omega) (fun e => by have := (ownsRow_lt HS2.out.rows.enums _ e.symm).1; omega)).trans (HS2.out.below HBA.out).blk; obtain ⟨_, p0, p1, p2, q0, q1, q2⟩ := blk3 s4; have S5 := Lib.hid s5; have S6 := Lib.hid (bel_app HBA.out hbs hg4 (fun k hk => by have := (ownsRow_lt HS2.out.rows.enums k hk).1; omega) 1 (.slice a4 (es.length + 1) m4)); clear s5 s4 hown4 hg4)
    refine ⟨⟨i + 1, _, _, by omega, ⟨rfl, rfl, rfl, rfl, rfl, rfl⟩, HK2.out.below S6.out (by omega), S5.out, by rw [List.map_append, HES.out, HTK.out, HCO.out]; rfl⟩, ?_⟩
    show re.length - (intOf (.int .i64 ((i : Int) + 1))).toNat < re.length - (intOf (.int .i64 (i : Int))).toNat
    simp [intOf]; omega
  · obtain rfl : i = re.length := by omega
    clear hlt
    go_wp2
    exact HQ.out _ _ _ _ ⟨rfl, rfl, rfl, rfl, rfl, rfl⟩ HK.out HS.out (by rw [HES.out, List.take_length, List.map_map]; rfl)
end Go.Proofs.YtleclhnlojalbaaGreatDoor
namespace Go.Proofs.YtleclhnlojalbaaGreatDoor
open Go.ChangeShapes Go.WideShapes Go.ChangeAt Go.RowKit

theorem wsize_any (n : Int) (w : World) :
    Calls Tryz.prog 131 #[.int .u8 n] w fun e w' => e = .returned (.int .i64 (kSize n)) ∧ w = w' := by
  by_cases h : n < 1 ∨ 10 < n
  · have H := Lib.hid (kSize_else n h)
    have b1 : (n == 1) = false := by simp; omega
    have b2 : (n == 2) = false := by simp; omega
    have b3 : (n == 3) = false := by simp; omega
    have b4 : (n == 4) = false := by simp; omega
    have b5 : (n == 5) = false := by simp; omega
    have b6 : (n == 6) = false := by simp; omega
    have b7 : (n == 7) = false := by simp; omega
    have b8 : (n == 8) = false := by simp; omega
    have b9 : (n == 9) = false := by simp; omega
    have b10 : (n == 10) = false := by simp; omega
    clear h
    rw [H.out]
    go_enter Tryz.func131, Tryz.ntmps131
    go_wp2
    go_ret
    exact ⟨rfl, rfl⟩
  · have h' : n = 1 ∨ n = 2 ∨ n = 3 ∨ n = 4 ∨ n = 5 ∨ n = 6 ∨ n = 7 ∨ n = 8 ∨ n = 9 ∨ n = 10 := by omega
    clear h
    rcases h' with rfl | rfl | rfl | rfl | rfl | rfl | rfl | rfl | rfl | rfl
    all_goals
      go_enter Tryz.func131, Tryz.ntmps131
      go_wp2
      go_ret
      exact ⟨ret_int (by decide), rfl⟩
theorem wsign_any (n : Int) (w : World) :
    Calls Tryz.prog 132 #[.int .u8 n] w fun e w' => e = .returned (.bool (kSign n)) ∧ w = w' := by
  by_cases h1 : 2 ≤ n
  · by_cases h2 : n ≤ 5
    · rw [show kSign n = true from decide_eq_true ⟨h1, h2⟩]
      go_enter Tryz.func132, Tryz.ntmps132
      go_wp2
      go_ret
      exact ⟨rfl, rfl⟩
    · rw [show kSign n = false from decide_eq_false (fun h => h2 h.2)]
      go_enter Tryz.func132, Tryz.ntmps132
      go_wp2
      go_ret
      exact ⟨rfl, rfl⟩
  · rw [show kSign n = false from decide_eq_false (fun h => h1 h.1)]
    go_enter Tryz.func132, Tryz.ntmps132
    go_wp2
    go_ret
    exact ⟨rfl, rfl⟩
end Go.Proofs.YtleclhnlojalbaaGreatDoor
namespace Go.Proofs.YtleclhnlojalbaaGreatDoor
open Go.ChangeShapes Go.WideShapes Go.ChangeAt Go.RowKit Go.Shelf

theorem numR_opt (x : Option Nat) : numR x = optV x := by cases x <;> rfl
theorem optV_form (x : Option Nat) : ∃ (d : Int) (o : Bool), optV x = .tuple #[.int .u64 d, .bool o] := by cases x <;> exact ⟨_, _, rfl⟩
theorem two_strs (W : World) (x y : ByteArray) : (W.alloc (.cells #[.string x, .string y] 9)).ownsRow W.heap.size 9 1 (.slice (some ⟨W.heap.size, 0, none⟩) 2 2) 2 (strsCells [x, y]) := by
  refine ⟨rfl, .inr ⟨W.heap.size, 2, #[.string x, .string y], rfl, Nat.le_refl _, heap_alloc_new W _, Nat.le_refl _, by unfold maxLen; omega, rfl, rfl⟩⟩
set_option maxRecDepth 100000 in
set_option maxHeartbeats 4000000 in
theorem mvalue_any (W : World) {M b root base : Nat} {sv ev rv ssv esv : Value} {m : List NEnt} {es : List (SCho × Value)} {xs : List RCho} (hM : MAt W M b sv ev rv m ssv esv root) (hR : ChoRows base W es esv) (hes : es.map Prod.fst = xs.map choOut) (k r ls : Nat) (t : Tok)
    (hr : k = 10 → r < xs.length) (hE : ErrV W) (hsz : (tokT t).size ≤ 281474976710656) :
    Calls Tryz.prog 108 #[.pointer (some ⟨M, 0, none⟩), .agg #[.int .u8 (k : Nat), .int .i64 (r : Nat), .int .i64 (ls : Nat)], .agg #[.int .i64 t.kind, .string (tokT t), .int .i64 t.place]] W fun e w' => e = .returned (optV (valueM xs k r ls t)) ∧ Below W.heap.size W w' := by
  obtain ⟨hb, hq1, hq2⟩ := two_blk W #[.int .u8 (k : Nat), .int .i64 (r : Nat), .int .i64 (ls : Nat)] #[.int .i64 t.kind, .string (tokT t), .int .i64 t.place] 53 109
  have HM := Lib.hid (hM.fell hb)
  have HR := Lib.hid (hR.below hb)
  have HE := Lib.hid hE
  have HB := Lib.hid hb
  have HQ1 := Lib.hid hq1
  have HQ2 := Lib.hid hq2
  have HES := Lib.hid hes
  have HV : Hid (valueM xs k r ls t = if t.kind = 0 then some 0 else if ls ≠ 0 then none else if k = 1 then chooseM t falseTrue else if k = 10 then chooseM t (chosenM xs r) else if t.kind = 2 then numV (bts (tokT t)) (kSize k) (kSign k) else none) := Lib.hid rfl
  generalize valueM xs k r ls t = V at *
  clear hM hR hE hb hq1 hq2 hes
  go_enter Tryz.func108, Tryz.ntmps108
  go_upto_region 1 with (fail)
  generalize ((W.alloc (.cells #[.int .u8 (k : Nat), .int .i64 (r : Nat), .int .i64 (ls : Nat)] 53)).alloc (.cells #[.int .i64 t.kind, .string (tokT t), .int .i64 t.place] 109)) = W0 at *
  obtain ⟨_, y0, y1, y2, _⟩ := blk3 HQ1.out
  obtain ⟨_, t0, t1, t2, _⟩ := blk3 HQ2.out
  by_cases h0 : t.kind = 0
  · have HX := Lib.hid (HV.out.trans (if_pos h0))
    generalize t.kind = tk at *
    subst h0
    go_wp2
    go_ret2
    exact ⟨by rw [HX.out]; rfl, HB.out⟩
  have HV1 := Lib.hid (HV.out.trans (if_neg h0))
  have hb0 : (t.kind == 0) = false := by simpa using h0
  by_cases h1 : ls ≠ 0
  · have HX := Lib.hid (HV1.out.trans (if_pos h1))
    have hb1 : ¬ (ls : Int) = 0 := by omega
    have hb2 : ((ls : Int) != 0) = true := by simpa using h1
    clear h1
    go_wp2
    go_ret2
    exact ⟨by rw [HX.out]; rfl, HB.out⟩
  have HV2 := Lib.hid (HV1.out.trans (if_neg h1))
  obtain rfl : ls = 0 := by omega
  clear h1
  by_cases hk1 : k = 1
  · have HX := Lib.hid (HV2.out.trans (if_pos hk1))
    subst hk1
    have hrow := two_strs W0 ⟨#[102, 97, 108, 115, 101]⟩ ⟨#[116, 114, 117, 101]⟩
    have hba : Below W0.heap.size W0 (W0.alloc (.cells #[.string ⟨#[102, 97, 108, 115, 101]⟩, .string ⟨#[116, 114, 117, 101]⟩] 9)) := (Below.refl _ _).alloc (Nat.le_refl _) _
    have HCH := Lib.hid (choose_any t falseTrue _ _ _ hrow)
    have HBA := Lib.hid (HB.out.trans (hba.mono HB.out.size))
    clear hrow hba
    go_wp2_with fail
    refine HCH.out.mono ?_
    rintro e w' ⟨rfl, hb'⟩
    have HBF := Lib.hid (HBA.out.trans (hb'.mono HBA.out.size))
    clear hb'
    rw [← HX.out]
    cases V with
    | none =>
      simp only [optV]
      go_wp2
      go_ret2
      exact ⟨rfl, HBF.out⟩
    | some n =>
      simp only [optV]
      go_wp2
      go_ret2
      exact ⟨rfl, HBF.out⟩
  have HV3 := Lib.hid (HV2.out.trans (if_neg hk1))
  have hk1b : ((k : Int) == 1) = false := by simp; omega
  have hk1n : ¬ (k : Int) = 1 := by omega
  by_cases hk10 : k = 10
  · have HX := Lib.hid (HV3.out.trans (if_pos hk10))
    have hrl := hr hk10
    subst hk10
    have hel : es.length = xs.length := by have := congrArg List.length HES.out; simpa using this
    have hre : r < es.length := by omega
    obtain ⟨g, c, hv, hc, hg, hcell⟩ := row_el schoCells 2 (fun _ => rfl) HR.out.enums r hre
    have hnm := HR.out.names _ (List.getElem_mem hre)
    have heq : es[r].1 = choOut xs[r] := by
      have h1 : (es.map Prod.fst)[r]? = (xs.map choOut)[r]? := by rw [HES.out]
      rw [List.getElem?_map, List.getElem?_map, List.getElem?_eq_getElem hre, List.getElem?_eq_getElem hrl] at h1
      exact Option.some.inj h1
    have hch : chosenM xs r = es[r].1.names := by
      rw [heq]
      unfold chosenM
      rw [List.getD, List.getElem?_eq_getElem hrl]
      rfl
    obtain ⟨na, nc, hnv⟩ := ownsRow_form hnm
    have x1 : W0.cell? ⟨g, r * 2 + 1, none⟩ = some (.slice na es[r].1.names.length nc) := by rw [← hnv]; exact hcell 1 (by omega)
    have x0 : W0.cell? ⟨g, r * 2, none⟩ = some (.string es[r].1.name) := hcell 0 (by omega)
    rw [hnv] at hnm
    rw [hch] at HX
    generalize es[r].1.names = nm at *
    generalize es[r].1.name = nn at *
    subst hv
    obtain ⟨hMl, z0, z1, z2, z3, z4, z5, z6, _⟩ := HM.out.cells
    have HCH := Lib.hid (choose_any t nm (.slice na nm.length nc) base W0.drew hnm)
    have hri : (r : Int) < es.length := by omega
    clear hnm hcell hnv hch heq hel hr hrl HV HV1 HV2 HV3
    go_upto_region 8 with (fail)
    have hl1 : W.heap.size + 1 < W0.heap.size := blk_lt HQ2.out
    have HCC := Lib.hid (show ∀ w', Below W0.heap.size W0 w' → w'.cell? ⟨W.heap.size + 1, 0, none⟩ = some (.int .i64 t.kind) ∧ w'.cell? ⟨W.heap.size + 1, 1, none⟩ = some (.string (tokT t)) ∧ w'.cell? ⟨W.heap.size + 1, 2, none⟩ = some (.int .i64 t.place) ∧ w'.cell? ⟨W.heap.size, 1, none⟩ = some (.int .i64 r) ∧ w'.cell? ⟨M, 5, none⟩ = some (.slice (some ⟨g, 0, none⟩) es.length c) ∧ w'.cell? ⟨g, r * 2 + 1, none⟩ = some (.slice na nm.length nc) from fun w' h => ⟨(h.cell (p := ⟨W.heap.size + 1, 0, none⟩) hl1).trans t0, (h.cell (p := ⟨W.heap.size + 1, 1, none⟩) hl1).trans t1, (h.cell (p := ⟨W.heap.size + 1, 2, none⟩) hl1).trans t2, (h.cell (p := ⟨W.heap.size, 1, none⟩) (by show W.heap.size < _; omega)).trans y1, (h.cell (p := ⟨M, 5, none⟩) hMl).trans z5, (h.cell (p := ⟨g, r * 2 + 1, none⟩) hg).trans x1⟩)
    go_region_held3 (fun w' => w'.cell? ⟨W.heap.size + 1, 0, none⟩ = some (.int .i64 t.kind) ∧ w'.cell? ⟨W.heap.size + 1, 1, none⟩ = some (.string (tokT t)) ∧ w'.cell? ⟨W.heap.size + 1, 2, none⟩ = some (.int .i64 t.place) ∧ w'.cell? ⟨W.heap.size, 1, none⟩ = some (.int .i64 r) ∧ w'.cell? ⟨M, 5, none⟩ = some (.slice (some ⟨g, 0, none⟩) es.length c) ∧ w'.cell? ⟨g, r * 2 + 1, none⟩ = some (.slice na nm.length nc)) (first | assumption | go_keep) (first | (go_at_call 135; (with_reducible refine HCH.out.mono ?_); rintro e w' ⟨rfl, hb'⟩; have hbw := drew_below hb'; obtain ⟨k0, k1, k2, k3, k4, k5⟩ := HCC.out w' hbw; have HBF := Lib.hid (HB.out.trans (hbw.mono HB.out.size)); clear hb' hbw; rw [← HX.out]; obtain ⟨d, o, hdo⟩ := optV_form V; have HDO := Lib.hid hdo; rw [hdo]; clear hdo))
    all_goals
      simp only [Exit.then]
      apply_assumption
      go_wp2
      go_ret2
      exact ⟨by rw [HDO.out]; rfl, HBF.out⟩
  have HV4 := Lib.hid (HV3.out.trans (if_neg hk10))
  have hk2b : ((k : Int) == 10) = false := by simp; omega
  have hk2n : ¬ (k : Int) = 10 := by omega
  by_cases h2 : t.kind = 2
  · have HX := Lib.hid (HV4.out.trans (if_pos h2))
    have HLN := Lib.hid (lexNumber_any (tokT t) (kSize k) (kSign k) W0.drew (HE.out.later (HB.out.drew)) hsz)
    rw [numR_opt, ← HX.out] at HLN
    generalize t.kind = tk at *
    subst h2
    go_upto_region 10 with (fail)
    have hl1 : W.heap.size + 1 < W0.heap.size := blk_lt HQ2.out
    have HCC := Lib.hid (show ∀ w', Below W0.heap.size W0 w' → w'.cell? ⟨W.heap.size + 1, 1, none⟩ = some (.string (tokT t)) ∧ w'.cell? ⟨W.heap.size, 0, none⟩ = some (.int .u8 k) from fun w' h => ⟨(h.cell (p := ⟨W.heap.size + 1, 1, none⟩) hl1).trans t1, (h.cell (p := ⟨W.heap.size, 0, none⟩) (by show W.heap.size < _; omega)).trans y0⟩)
    go_region_held3 (fun w' => w'.cell? ⟨W.heap.size + 1, 1, none⟩ = some (.string (tokT t)) ∧ w'.cell? ⟨W.heap.size, 0, none⟩ = some (.int .u8 k)) (first | assumption | go_keep) (first | (go_at_call 131; refine (wsize_any _ _).mono ?_; rintro e w' ⟨rfl, rfl⟩) | (go_at_call 132; refine (wsign_any _ _).mono ?_; rintro e w' ⟨rfl, rfl⟩) | (go_at_call 136; (with_reducible refine HLN.out.mono ?_); rintro e w' ⟨rfl, hb'⟩; have hbw := drew_below hb'; obtain ⟨k0, k1⟩ := HCC.out w' hbw; have HBF := Lib.hid (HB.out.trans (hbw.mono HB.out.size)); clear hb' hbw; obtain ⟨d, o, hdo⟩ := optV_form V; have HDO := Lib.hid hdo; rw [hdo]; clear hdo))
    all_goals
      simp only [Exit.then]
      apply_assumption
      go_wp2
      go_ret2
      exact ⟨by rw [HDO.out]; rfl, HBF.out⟩
  · have HX := Lib.hid (HV4.out.trans (if_neg h2))
    have hb2 : (t.kind == 2) = false := by simpa using h2
    go_wp2
    go_ret2
    exact ⟨by rw [HX.out]; rfl, HB.out⟩
end Go.Proofs.YtleclhnlojalbaaGreatDoor
namespace Go.Proofs.YtleclhnlojalbaaGreatDoor
open Go.ChangeShapes Go.WideShapes Go.ChangeAt Go.RowKit Go.Shelf

def sfldV (f : SFld) : Value := .agg #[.string f.name, .int .u8 (f.kind : Nat), .int .i64 (f.ref : Nat), .int .i64 (f.lists : Nat), .int .u64 (f.dflt : Nat)]
def noSfld : SFld := ⟨⟨#[]⟩, 0, 0, 0, 0⟩
def fldV (f : RField) : Value := .agg #[.string (strOfNums f.name), .int .i64 f.place, .string (strOfNums f.ty.name), .int .i64 f.ty.lists, .int .i64 f.ty.place, .int .i64 f.dflt.kind, .string (strOfNums f.dflt.text), .int .i64 f.dflt.place]
def fldR : MRes SFld → Value
  | .ok f => .tuple #[sfldV f, .agg #[.int .i64 0, .int .i64 0]]
  | .no c p => .tuple #[sfldV noSfld, .agg #[.int .i64 c, .int .i64 (p : Nat)]]
theorem three_blk (w : World) (a b c : Array Value) (s t u : TypeId) : Below w.heap.size w (((w.alloc (.cells a s)).alloc (.cells b t)).alloc (.cells c u)) ∧ (((w.alloc (.cells a s)).alloc (.cells b t)).alloc (.cells c u)).heap[w.heap.size]? = some (.cells a s (0, 0)) ∧
    (((w.alloc (.cells a s)).alloc (.cells b t)).alloc (.cells c u)).heap[w.heap.size + 1]? = some (.cells b t (0, 0)) ∧ (((w.alloc (.cells a s)).alloc (.cells b t)).alloc (.cells c u)).heap[w.heap.size + 2]? = some (.cells c u (0, 0)) := by
  obtain ⟨h1, h2, h3⟩ := two_blk w a b s t
  refine ⟨h1.alloc h1.size _, blk_alloc h2 _, blk_alloc h3 _, ?_⟩
  have := heap_alloc_new ((w.alloc (.cells a s)).alloc (.cells b t)) (.cells c u)
  simpa using this
theorem ents_look1 {W : World} {b : Nat} {m : List NEnt} (h : MapAt W b (m.map entP)) (s : ByteArray) :
    (Instr.lookup 123 (.map (some b)) (.string s) false).run Tryz.prog W = .ok (mtyV ((lookN m s).map Prod.fst |>.getD 0) ((lookN m s).map Prod.snd |>.getD 0) 0) W := by
  have := h.look ty_key ty_map (ty_zero W) s false
  rw [if_neg (by decide), look_ents] at this
  rw [this]
  cases lookN m s <;> rfl
theorem blk5' {w : World} {g : Nat} {x0 x1 x2 x3 x4 : Value} {t : TypeId} (h : w.heap[g]? = some (.cells #[x0, x1, x2, x3, x4] t (0, 0))) :
    g < w.heap.size ∧ w.cell? ⟨g, 0, none⟩ = some x0 ∧ w.cell? ⟨g, 1, none⟩ = some x1 ∧ w.cell? ⟨g, 2, none⟩ = some x2 ∧ w.cell? ⟨g, 3, none⟩ = some x3 ∧ w.cell? ⟨g, 4, none⟩ = some x4 ∧
    w.frozen? ⟨g, 0, none⟩ = false ∧ w.frozen? ⟨g, 1, none⟩ = false ∧ w.frozen? ⟨g, 2, none⟩ = false ∧ w.frozen? ⟨g, 3, none⟩ = false ∧ w.frozen? ⟨g, 4, none⟩ = false :=
  ⟨blk_lt h, (blk_cell h 0).trans rfl, (blk_cell h 1).trans rfl, (blk_cell h 2).trans rfl, (blk_cell h 3).trans rfl, (blk_cell h 4).trans rfl, blk_frozen h 0, blk_frozen h 1, blk_frozen h 2, blk_frozen h 3, blk_frozen h 4⟩
theorem blk8' {w : World} {g : Nat} {x0 x1 x2 x3 x4 x5 x6 x7 : Value} {t : TypeId} (h : w.heap[g]? = some (.cells #[x0, x1, x2, x3, x4, x5, x6, x7] t (0, 0))) :
    g < w.heap.size ∧ w.cell? ⟨g, 0, none⟩ = some x0 ∧ w.cell? ⟨g, 1, none⟩ = some x1 ∧ w.cell? ⟨g, 2, none⟩ = some x2 ∧ w.cell? ⟨g, 3, none⟩ = some x3 ∧ w.cell? ⟨g, 4, none⟩ = some x4 ∧ w.cell? ⟨g, 5, none⟩ = some x5 ∧ w.cell? ⟨g, 6, none⟩ = some x6 ∧ w.cell? ⟨g, 7, none⟩ = some x7 :=
  ⟨blk_lt h, (blk_cell h 0).trans rfl, (blk_cell h 1).trans rfl, (blk_cell h 2).trans rfl, (blk_cell h 3).trans rfl, (blk_cell h 4).trans rfl, (blk_cell h 5).trans rfl, (blk_cell h 6).trans rfl, (blk_cell h 7).trans rfl⟩
def put5 (W : World) (g : Nat) (x0 x1 x2 x3 x4 : Value) : World := ((((W.setCell ⟨g, 0, none⟩ x0).setCell ⟨g, 1, none⟩ x1).setCell ⟨g, 2, none⟩ x2).setCell ⟨g, 3, none⟩ x3).setCell ⟨g, 4, none⟩ x4
def put2 (W : World) (g : Nat) (u v : Value) : World := (W.setCell ⟨g, 0, none⟩ u).setCell ⟨g, 1, none⟩ v
structure FEnd (W : World) (x0 x1 x2 x3 x4 u v : Value) (Wf : World) : Prop where
  fld : Wf.heap[W.heap.size + 1]? = some (.cells #[x0, x1, x2, x3, x4] 55 (0, 0))
  flt : Wf.heap[W.heap.size + 1 + 1]? = some (.cells #[u, v] 43 (0, 0))
  bel : Below W.heap.size W Wf
theorem put5_blk {W : World} {g : Nat} {a0 a1 a2 a3 a4 : Value} {t : TypeId} (h : W.heap[g]? = some (.cells #[a0, a1, a2, a3, a4] t (0, 0))) (x0 x1 x2 x3 x4 : Value) : (put5 W g x0 x1 x2 x3 x4).heap[g]? = some (.cells #[x0, x1, x2, x3, x4] t (0, 0)) :=
  (blk_set (blk_set (blk_set (blk_set (blk_set h 0 x0) 1 x1) 2 x2) 3 x3) 4 x4).trans rfl
theorem put5_far {W : World} {g k : Nat} {o : Obj} (h : W.heap[k]? = some o) (hk : g ≠ k) (x0 x1 x2 x3 x4 : Value) : (put5 W g x0 x1 x2 x3 x4).heap[k]? = some o :=
  blk_set_ne (blk_set_ne (blk_set_ne (blk_set_ne (blk_set_ne h hk _) hk _) hk _) hk _) hk _
theorem put5_below {B g : Nat} {a W : World} (h : Below B a W) (hg : B ≤ g) (x0 x1 x2 x3 x4 : Value) : Below B a (put5 W g x0 x1 x2 x3 x4) :=
  ((((h.setCell (p := ⟨g, 0, none⟩) hg _).setCell (p := ⟨g, 1, none⟩) hg _).setCell (p := ⟨g, 2, none⟩) hg _).setCell (p := ⟨g, 3, none⟩) hg _).setCell (p := ⟨g, 4, none⟩) hg _
theorem fend1 {W W1 : World} {a0 a1 a2 a3 a4 b0 b1 : Value} (h1 : W1.heap[W.heap.size + 1]? = some (.cells #[a0, a1, a2, a3, a4] 55 (0, 0))) (h2 : W1.heap[W.heap.size + 1 + 1]? = some (.cells #[b0, b1] 43 (0, 0))) (hb : Below W.heap.size W W1) (x0 x1 x2 x3 x4 u v : Value) :
    FEnd W x0 x1 x2 x3 x4 u v (put2 (put5 W1 (W.heap.size + 1) x0 x1 x2 x3 x4) (W.heap.size + 1 + 1) u v) :=
  ⟨blk_set_ne (blk_set_ne (put5_blk h1 _ _ _ _ _) (by show W.heap.size + 1 + 1 ≠ _; omega) _) (by show W.heap.size + 1 + 1 ≠ _; omega) _, blk_set2 (put5_far h2 (by omega) _ _ _ _ _) _ _,
    ((put5_below hb (Nat.le_succ _) _ _ _ _ _).setCell (p := ⟨W.heap.size + 1 + 1, 0, none⟩) (by show _ ≤ W.heap.size + 1 + 1; omega) _).setCell (p := ⟨W.heap.size + 1 + 1, 1, none⟩) (by show _ ≤ W.heap.size + 1 + 1; omega) _⟩
theorem fend2 {W W1 : World} {a0 a1 a2 a3 a4 b0 b1 : Value} (h1 : W1.heap[W.heap.size + 1]? = some (.cells #[a0, a1, a2, a3, a4] 55 (0, 0))) (h2 : W1.heap[W.heap.size + 1 + 1]? = some (.cells #[b0, b1] 43 (0, 0))) (hb : Below W.heap.size W W1) (x0 x1 x2 x3 x4 u v : Value) :
    FEnd W x0 x1 x2 x3 x4 u v (put5 (put2 W1 (W.heap.size + 1 + 1) u v) (W.heap.size + 1) x0 x1 x2 x3 x4) :=
  ⟨put5_blk (blk_set_ne (blk_set_ne h1 (by show W.heap.size + 1 + 1 ≠ _; omega) _) (by show W.heap.size + 1 + 1 ≠ _; omega) _) _ _ _ _ _, put5_far (blk_set2 h2 _ _) (by omega) _ _ _ _ _,
    put5_below ((hb.setCell (p := ⟨W.heap.size + 1 + 1, 0, none⟩) (by show _ ≤ W.heap.size + 1 + 1; omega) _).setCell (p := ⟨W.heap.size + 1 + 1, 1, none⟩) (by show _ ≤ W.heap.size + 1 + 1; omega) _) (Nat.le_succ _) _ _ _ _ _⟩
theorem fend3 {W W1 : World} {a0 a1 a2 a3 a4 u v : Value} (h1 : W1.heap[W.heap.size + 1]? = some (.cells #[a0, a1, a2, a3, a4] 55 (0, 0))) (h2 : W1.heap[W.heap.size + 1 + 1]? = some (.cells #[u, v] 43 (0, 0))) (hb : Below W.heap.size W W1) (x0 x1 x2 x3 x4 : Value) :
    FEnd W x0 x1 x2 x3 x4 u v (put5 W1 (W.heap.size + 1) x0 x1 x2 x3 x4) :=
  ⟨put5_blk h1 _ _ _ _ _, put5_far h2 (by omega) _ _ _ _ _, put5_below hb (Nat.le_succ _) _ _ _ _ _⟩
theorem FEnd.drew {W Wf : World} {x0 x1 x2 x3 x4 u v : Value} (h : FEnd W x0 x1 x2 x3 x4 u v Wf) : FEnd W x0 x1 x2 x3 x4 u v Wf.drew := ⟨h.fld, h.flt, h.bel.drew⟩
set_option maxRecDepth 100000 in
set_option maxHeartbeats 8000000 in
theorem mfield_any (W : World) {M b root base : Nat} {sv ev rv ssv esv : Value} {m : List NEnt} {es : List (SCho × Value)} {xs : List RCho} (hM : MAt W M b sv ev rv m ssv esv root) (hR : ChoRows base W es esv) (hes : es.map Prod.fst = xs.map choOut) (f : RField)
    (hm : ∀ s q, lookN m s = some q → (q.1 = 10 → q.2 < xs.length) ∧ q.1 ≤ 13) (hE : ErrV W) (hsz : f.dflt.text.length ≤ 281474976710656 ∧ f.name.length ≤ 281474976710656) :
    Calls Tryz.prog 88 #[.pointer (some ⟨M, 0, none⟩), fldV f] W fun e w' => e = .returned (fldR (fieldM m xs f)) ∧ Below W.heap.size W w' := by
  obtain ⟨hb, hq1, hq2, hq3⟩ := three_blk W #[.string (strOfNums f.name), .int .i64 f.place, .string (strOfNums f.ty.name), .int .i64 f.ty.lists, .int .i64 f.ty.place, .int .i64 f.dflt.kind, .string (strOfNums f.dflt.text), .int .i64 f.dflt.place] #[.string ⟨#[]⟩, .int .u8 0, .int .i64 0, .int .i64 0, .int .u64 0] #[.int .i64 0, .int .i64 0] 135 55 43
  have HMW := Lib.hid hM
  have HRW := Lib.hid hR
  have HEW := Lib.hid hE
  have HM := Lib.hid (hM.fell hb)
  have HR := Lib.hid (hR.below hb)
  have HE := Lib.hid (hE.later hb)
  have HB := Lib.hid hb
  have HQ1 := Lib.hid hq1
  have HQ2 := Lib.hid hq2
  have HQ3 := Lib.hid hq3
  have HES := Lib.hid hes
  have HMM := Lib.hid (hm (strOfNums f.ty.name))
  have HF : Hid (fieldM m xs f = match lookN m (strOfNums f.ty.name) with
    | none => .no 14 f.ty.place
    | some q => if q.1 = 0 then .no 14 f.ty.place else
      match valueM xs q.1 q.2 f.ty.lists f.dflt with
      | none => .no 15 f.dflt.place
      | some d => .ok ⟨strOfNums f.name, q.1, q.2, f.ty.lists, d⟩) := Lib.hid rfl
  generalize fieldM m xs f = V at *
  clear hM hR hE hb hq1 hq2 hq3 hes hm
  unfold fldV
  go_enter Tryz.func88, Tryz.ntmps88
  go_upto_region 1 with (fail)
  generalize (((W.alloc (.cells #[.string (strOfNums f.name), .int .i64 f.place, .string (strOfNums f.ty.name), .int .i64 f.ty.lists, .int .i64 f.ty.place, .int .i64 f.dflt.kind, .string (strOfNums f.dflt.text), .int .i64 f.dflt.place] 135)).alloc (.cells #[.string ⟨#[]⟩, .int .u8 0, .int .i64 0, .int .i64 0, .int .u64 0] 55)).alloc (.cells #[.int .i64 0, .int .i64 0] 43)) = W0 at *
  obtain ⟨_, y0, y1, y2, y3, y4, y5, y6, y7⟩ := blk8' HQ1.out
  obtain ⟨_, r0, r1, r2, r3, r4, p0, p1, p2, p3, p4⟩ := blk5' HQ2.out
  obtain ⟨_, f0, f1, g0, g1⟩ := blk2 HQ3.out
  obtain ⟨hMl, z0, z1, z2, z3, z4, z5, z6, _⟩ := HM.out.cells
  obtain ⟨kd, hkd⟩ : ∃ kd, ((lookN m (strOfNums f.ty.name)).map Prod.fst).getD 0 = kd := ⟨_, rfl⟩
  obtain ⟨rf, hrf⟩ : ∃ rf, ((lookN m (strOfNums f.ty.name)).map Prod.snd).getD 0 = rf := ⟨_, rfl⟩
  have hlk : ∀ w', MapAt w' b (m.map entP) → (Instr.lookup 123 (.map (some b)) (.string (strOfNums f.ty.name)) false).run Tryz.prog w' = .ok (.agg #[.int .u8 kd, .int .i64 rf, .int .i64 0]) w' := fun w' h' => by rw [← hkd, ← hrf]; exact ents_look1 h' _
  have hl0 := hlk W0 HM.out.map
  have hl1 := hlk W0.drew HM.out.map
  have hl2 := hlk (W0.alloc (.cells #[.int .u8 0, .int .i64 0, .int .i64 0] 53)) (HM.out.map.alloc _)
  have hl3 := hlk (W0.alloc (.cells #[.int .u8 0, .int .i64 0, .int .i64 0] 53)).drew (HM.out.map.alloc _)
  have HKD := Lib.hid hkd
  have HRF := Lib.hid hrf
  clear hlk hkd hrf
  go_region
  all_goals
    simp only [Exit.then]
    apply_assumption
    clear hl0 hl1 hl2 hl3
    have hb1 : Below W0.heap.size W0 (W0.alloc (.cells #[.int .u8 kd, .int .i64 rf, .int .i64 0] 53)).drew := ((Below.refl _ _).alloc (Nat.le_refl _) _).drew
    have ht1 : (W0.alloc (.cells #[.int .u8 kd, .int .i64 rf, .int .i64 0] 53)).drew.heap[W0.heap.size]? = some (.cells #[.int .u8 kd, .int .i64 rf, .int .i64 0] 53 (0, 0)) := heap_alloc_new W0 _
    have HS0 := Lib.hid (show W.heap.size + 2 < W0.heap.size from blk_lt HQ3.out)
    have HM1 := Lib.hid (HM.out.fell hb1)
    have HC1 := Lib.hid (HR.out.below hb1)
    have HE1 := Lib.hid (HE.out.later hb1)
    have HB1 := Lib.hid (HB.out.trans (hb1.mono HB.out.size))
    have HI1 := Lib.hid (blk_below HQ1.out hb1 (blk_lt HQ1.out))
    have HR1 := Lib.hid (blk_below HQ2.out hb1 (blk_lt HQ2.out))
    have HF1 := Lib.hid (blk_below HQ3.out hb1 (blk_lt HQ3.out))
    have HT1 := Lib.hid ht1
    clear y0 y1 y2 y3 y4 y5 y6 y7 r0 r1 r2 r3 r4 p0 p1 p2 p3 p4 f0 f1 g0 g1 z0 z1 z2 z3 z4 z5 z6 hb1 ht1 HM HR HE HB HQ1 HQ2 HQ3
    generalize (W0.alloc (.cells #[.int .u8 kd, .int .i64 rf, .int .i64 0] 53)).drew = W1 at *
    obtain ⟨_, y0, y1, y2, y3, y4, y5, y6, y7⟩ := blk8' HI1.out
    obtain ⟨_, r0, r1, r2, r3, r4, p0, p1, p2, p3, p4⟩ := blk5' HR1.out
    obtain ⟨_, f0, f1, g0, g1⟩ := blk2 HF1.out
    obtain ⟨_, t0, t1, t2, q0, q1, q2⟩ := blk3 HT1.out
    by_cases hk0 : kd = 0
    · have HV : Hid (V = .no 14 f.ty.place) := Lib.hid (by
        rw [HF.out]
        cases hl : lookN m (strOfNums f.ty.name) with
        | none => rfl
        | some q =>
          have h1 := HKD.out
          rw [hl] at h1
          have h2 : q.1 = 0 := by rw [← hk0, ← h1]; rfl
          show (if q.1 = 0 then _ else _) = _
          rw [if_pos h2])
      subst hk0
      go_upto_region 3 with (fail)
      go_region
      all_goals
        simp only [Exit.then]
        apply_assumption
        go_wp2
        refine post_gen (FEnd W (.string ⟨#[]⟩) (.int .u8 0) (.int .i64 0) (.int .i64 0) (.int .u64 0) (.int .i64 14) (.int .i64 f.ty.place)) ?_ ?_
        · first
            | exact (fend1 HR1.out HF1.out HB1.out _ _ _ _ _ _ _).drew
            | exact (fend2 HR1.out HF1.out HB1.out _ _ _ _ _ _ _).drew
            | exact fend1 (W1 := W1.drew) HR1.out HF1.out HB1.out.drew _ _ _ _ _ _ _
            | exact fend2 (W1 := W1.drew) HR1.out HF1.out HB1.out.drew _ _ _ _ _ _ _
        · rintro Wf ⟨e1, e2, e3⟩
          obtain ⟨_, c0, c1, c2, c3, c4, _⟩ := blk5' e1
          obtain ⟨_, d0, d1, _⟩ := blk2 e2
          exact bodyPost_ret (v := .tuple #[.agg #[.string ⟨#[]⟩, .int .u8 0, .int .i64 0, .int .i64 0, .int .u64 0], .agg #[.int .i64 14, .int .i64 f.ty.place]]) (by simp [results, Tryz.results88, go_sem, c0, c1, c2, c3, c4, d0, d1]) rfl ⟨by rw [HV.out]; rfl, e3⟩

    · obtain ⟨q, hl⟩ : ∃ q, lookN m (strOfNums f.ty.name) = some q := by
        cases hl : lookN m (strOfNums f.ty.name) with
        | none => exact absurd (by rw [← HKD.out, hl]; rfl) hk0
        | some q => exact ⟨q, rfl⟩
      have hqk : q.1 = kd := by rw [← HKD.out, hl]; rfl
      have hqr : q.2 = rf := by rw [← HRF.out, hl]; rfl
      obtain ⟨hm1, hm2⟩ := HMM.out q hl
      rw [hqk, hqr] at hm1
      have HFV : Hid (V = match valueM xs kd rf f.ty.lists f.dflt with
        | none => .no 15 f.dflt.place
        | some d => .ok ⟨strOfNums f.name, kd, rf, f.ty.lists, d⟩) := Lib.hid (by
          rw [HF.out, hl]
          show (if q.1 = 0 then _ else _) = _
          rw [if_neg (by rw [hqk]; exact hk0), hqk, hqr])
      have hkb : ((kd : Int) == 0) = false := by simp; omega
      have hkn : ¬ (kd : Int) = 0 := by omega
      clear hl hqk hqr hm2
      go_upto_region 5 with (fail)
      have HT6 := Lib.hid (show W.heap.size + 2 < W0.heap.size from HS0.out)
      generalize hT6 : W0.heap.size = T6 at *
      clear hT6
      have hx2 : Exc T6 W1.heap.size W1 (W1.setCell ⟨T6, 2, none⟩ (.int .i64 f.ty.lists)) := exc_set _ _ _ _
      have HT2 := Lib.hid (show (W1.setCell ⟨T6, 2, none⟩ (.int .i64 f.ty.lists)).heap[T6]? = some (.cells #[.int .u8 kd, .int .i64 rf, .int .i64 f.ty.lists] 53 (0, 0)) from (blk_set HT1.out 2 _).trans rfl)
      have hT6W : W.heap.size + 2 < T6 := HT6.out
      have HB2 := Lib.hid (HB1.out.setCell (p := ⟨T6, 2, none⟩) (by show W.heap.size ≤ T6; omega) (.int .i64 f.ty.lists))
      have HI2 := Lib.hid (blk_set_ne HI1.out (p := ⟨T6, 2, none⟩) (by show T6 ≠ _; omega) (.int .i64 f.ty.lists))
      have HR2 := Lib.hid (blk_set_ne HR1.out (p := ⟨T6, 2, none⟩) (by show T6 ≠ _; omega) (.int .i64 f.ty.lists))
      have HF2 := Lib.hid (blk_set_ne HF1.out (p := ⟨T6, 2, none⟩) (by show T6 ≠ _; omega) (.int .i64 f.ty.lists))
      clear y0 y1 y2 y3 y4 y5 y6 y7 r0 r1 r2 r3 r4 p0 p1 p2 p3 p4 f0 f1 g0 g1 t0 t1 t2 q0 q1 q2 hx2 HB1 HI1 HR1 HF1 HT1 HM1 HC1 HE1
      generalize W1.setCell ⟨T6, 2, none⟩ (.int .i64 f.ty.lists) = W2 at *
      have hval := mvalue_any W2 (HMW.out.fell HB2.out) (HRW.out.below HB2.out) HES.out kd rf f.ty.lists f.dflt hm1 (HEW.out.later HB2.out) (by rw [tokT, strOfNums_size]; exact hsz.1)
      have HVAL := Lib.hid (show Calls Tryz.prog 108 #[.pointer (some ⟨M, 0, none⟩), .agg #[.int .u8 kd, .int .i64 rf, .int .i64 f.ty.lists], .agg #[.int .i64 f.dflt.kind, .string (strOfNums f.dflt.text), .int .i64 f.dflt.place]] W2 _ from hval)
      have HCS := Lib.hid (show (strOfNums f.name).size ≤ 281474976710656 by rw [strOfNums_size]; exact hsz.2)
      obtain ⟨hIl, y0, y1, y2, y3, y4, y5, y6, y7⟩ := blk8' HI2.out
      obtain ⟨hTl, t0, t1, t2, q0, q1, q2⟩ := blk3 HT2.out
      clear hval hsz
      go_wp2_with fail
      refine HVAL.out.mono ?_
      rintro e W3 ⟨rfl, hb3⟩
      have HB3 := Lib.hid (HB2.out.trans (hb3.mono HB2.out.size))
      have HI3 := Lib.hid (blk_below HI2.out hb3 (blk_lt HI2.out))
      have HR3 := Lib.hid (blk_below HR2.out hb3 (blk_lt HR2.out))
      have HF3 := Lib.hid (blk_below HF2.out hb3 (blk_lt HF2.out))
      have HT3 := Lib.hid (blk_below HT2.out hb3 (blk_lt HT2.out))
      clear y0 y1 y2 y3 y4 y5 y6 y7 t0 t1 t2 q0 q1 q2 hb3 HB2 HI2 HR2 HF2 HT2
      obtain ⟨_, y0, y1, y2, y3, y4, y5, y6, y7⟩ := blk8' HI3.out
      obtain ⟨_, r0, r1, r2, r3, r4, p0, p1, p2, p3, p4⟩ := blk5' HR3.out
      obtain ⟨_, f0, f1, g0, g1⟩ := blk2 HF3.out
      cases hvm : valueM xs kd rf f.ty.lists f.dflt with
      | none =>
        have HV : Hid (V = .no 15 f.dflt.place) := Lib.hid (by rw [HFV.out, hvm])
        clear hvm
        simp only [optV]
        go_upto_region 7 with (fail)
        go_region
        all_goals
          simp only [Exit.then]
          apply_assumption
          go_wp2
          refine post_gen (FEnd W (.string ⟨#[]⟩) (.int .u8 0) (.int .i64 0) (.int .i64 0) (.int .u64 0) (.int .i64 15) (.int .i64 f.dflt.place)) ?_ ?_
          · first
              | exact (fend1 HR3.out HF3.out HB3.out _ _ _ _ _ _ _).drew
              | exact (fend2 HR3.out HF3.out HB3.out _ _ _ _ _ _ _).drew
              | exact fend1 (W1 := W3.drew) HR3.out HF3.out HB3.out.drew _ _ _ _ _ _ _
              | exact fend2 (W1 := W3.drew) HR3.out HF3.out HB3.out.drew _ _ _ _ _ _ _
          · rintro Wf ⟨e1, e2, e3⟩
            obtain ⟨_, c0, c1, c2, c3, c4, _⟩ := blk5' e1
            obtain ⟨_, d0, d1, _⟩ := blk2 e2
            exact bodyPost_ret (v := .tuple #[.agg #[.string ⟨#[]⟩, .int .u8 0, .int .i64 0, .int .i64 0, .int .u64 0], .agg #[.int .i64 15, .int .i64 f.dflt.place]]) (by simp [results, Tryz.results88, go_sem, c0, c1, c2, c3, c4, d0, d1]) rfl ⟨by rw [HV.out]; rfl, e3⟩
      | some d =>
        have HV : Hid (V = .ok ⟨strOfNums f.name, kd, rf, f.ty.lists, d⟩) := Lib.hid (by rw [HFV.out, hvm])
        clear hvm
        simp only [optV]
        go_upto_region 8 with (fail)
        obtain ⟨hTl3, t0, t1, t2, q0, q1, q2⟩ := blk3 HT3.out
        have hI3l : W.heap.size < W3.heap.size := blk_lt HI3.out
        have nt0 : W.heap.size ≠ W.heap.size + 1 + 1 := by omega
        have nt1 : T6 ≠ W.heap.size + 1 + 1 := by omega
        have nf0 : W.heap.size ≠ W.heap.size + 1 := by omega
        have nf1 : T6 ≠ W.heap.size + 1 := by omega
        have HCC := Lib.hid (show ∀ w', Below W3.heap.size W3 w' → w'.cell? ⟨W.heap.size, 0, none⟩ = some (.string (strOfNums f.name)) ∧ w'.cell? ⟨T6, 0, none⟩ = some (.int .u8 kd) ∧ w'.cell? ⟨T6, 1, none⟩ = some (.int .i64 rf) ∧ w'.cell? ⟨T6, 2, none⟩ = some (.int .i64 f.ty.lists) from fun w' h => ⟨(h.cell (p := ⟨W.heap.size, 0, none⟩) hI3l).trans y0, (h.cell (p := ⟨T6, 0, none⟩) hTl3).trans t0, (h.cell (p := ⟨T6, 1, none⟩) hTl3).trans t1, (h.cell (p := ⟨T6, 2, none⟩) hTl3).trans t2⟩)
        have s0 := y0
        have s1 := t0
        have s2 := t1
        have s3 := t2
        have sd0 : W3.drew.cell? ⟨W.heap.size, 0, none⟩ = some (.string (strOfNums f.name)) := y0
        have sd1 : W3.drew.cell? ⟨T6, 0, none⟩ = some (.int .u8 kd) := t0
        have sd2 : W3.drew.cell? ⟨T6, 1, none⟩ = some (.int .i64 rf) := t1
        have sd3 : W3.drew.cell? ⟨T6, 2, none⟩ = some (.int .i64 f.ty.lists) := t2
        refine wp_region_noPanic ?_
        clear sd0 sd1 sd2 sd3 s0 s1 s2 s3
        go_region_law (go_simp; go_at_call 85; (with_reducible refine (clone_any (strOfNums f.name) W3.drew HCS.out).mono ?_); rintro e Wc ⟨rfl, hbc⟩; have hbw : Below W3.heap.size W3 Wc := drew_below hbc; obtain ⟨k0, k1, k2, k3⟩ := HCC.out Wc hbw; have hrc := blk_below HR3.out hbw (blk_lt HR3.out); have hfc := blk_below HF3.out hbw (blk_lt HF3.out); obtain ⟨_, rr0, rr1, rr2, rr3, rr4, pp0, pp1, pp2, pp3, pp4⟩ := blk5' hrc; obtain ⟨_, ff0, ff1, gg0, gg1⟩ := blk2 hfc; have HRC := Lib.hid hrc; have HFC := Lib.hid hfc; have HBC := Lib.hid (HB3.out.trans (hbw.mono HB3.out.size)); clear hbc hbw hrc hfc)
        all_goals
          refine NoPanic.normal ?_
          simp only [Exit.then]
          apply_assumption
          go_wp2
          refine post_gen (FEnd W (.string (strOfNums f.name)) (.int .u8 kd) (.int .i64 rf) (.int .i64 f.ty.lists) (.int .u64 d) (.int .i64 0) (.int .i64 0)) ?_ ?_
          · first
              | exact fend1 HRC.out HFC.out HBC.out _ _ _ _ _ _ _
              | exact fend2 HRC.out HFC.out HBC.out _ _ _ _ _ _ _
              | exact fend3 HRC.out HFC.out HBC.out _ _ _ _ _
              | exact (fend1 HRC.out HFC.out HBC.out _ _ _ _ _ _ _).drew
              | exact (fend2 HRC.out HFC.out HBC.out _ _ _ _ _ _ _).drew
              | exact (fend3 HRC.out HFC.out HBC.out _ _ _ _ _).drew
          · rintro Wf ⟨e1, e2, e3⟩
            obtain ⟨_, c0, c1, c2, c3, c4, _⟩ := blk5' e1
            obtain ⟨_, d0, d1, _⟩ := blk2 e2
            exact bodyPost_ret (v := .tuple #[.agg #[.string (strOfNums f.name), .int .u8 kd, .int .i64 rf, .int .i64 f.ty.lists, .int .u64 d], .agg #[.int .i64 0, .int .i64 0]]) (by simp [results, Tryz.results88, go_sem, c0, c1, c2, c3, c4, d0, d1]) rfl ⟨by rw [HV.out]; rfl, e3⟩
end Go.Proofs.YtleclhnlojalbaaGreatDoor
