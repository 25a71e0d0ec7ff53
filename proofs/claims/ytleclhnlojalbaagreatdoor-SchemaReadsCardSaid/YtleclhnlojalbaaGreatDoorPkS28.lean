/-
  The document's Make: the loop that makes the enums, whole. Conditions: those that each theorem names.
  What Size and Sign of the package wire hand back, each by a walk of its text. Conditions: those that each theorem names.
  The package schema's maker: value, the number that a token says as a type's default. Conditions: those that each theorem names.
-/
import Derived.Test.YtleclhnlojalbaaGreatDoorPkS2
import Derived.Test.YtleclhnlojalbaaGreatDoorPkS15
import Derived.Test.YtleclhnlojalbaaGreatDoorPkS22
import Derived.Test.YtleclhnlojalbaaGreatDoorPkS27
import Derived.Deep.RegionHeld3
namespace Go.Proofs.YtleclhnlojalbaaGreatDoor
open Go.ChangeShapes Go.WideShapes Go.ChangeAt Go.RowKit Go.Shelf

/-- Where the loop is. -/
def RmCAt (w : World) (sv ev rv : Value) (re : List (RCho × Value)) (S : Nat) (c' : Act) (w' : World) : Prop :=
  ∃ (i : Nat) (es : List (SCho × Value)) (esv : Value), i ≤ re.length ∧ RmC w.heap.size S i c' ∧ RmKeep w sv ev rv w' ∧ SchAt S w' [] es (.slice none 0 0) esv 0 ∧ es.map Prod.fst = (re.take i).map (fun p => choOut p.1)
set_option maxRecDepth 100000 in
set_option maxHeartbeats 8000000 in
theorem rmc_wp {Q : Exit → Act → World → Prop} {c : Act} {w w0 : World} {rb S : Nat} {rs : List (RRec × Value)} {re : List (RCho × Value)} {rt : List Tok} {sv ev rv : Value} (h : RawRows rb w rs re rt sv ev rv) (hc : RmC w.heap.size S 0 c) (hk : RmKeep w sv ev rv w0)
    (hs : SchAt S w0 [] [] (.slice none 0 0) (.slice none 0 0) 0) (hSq : w.heap.size + 2 ≤ S) (hlen : ∀ p ∈ re, p.1.names.length ≤ 100) (hl8 : re.length ≤ 8)
    (hQ : ∀ c' w' es esv, RmC w.heap.size S re.length c' → RmKeep w sv ev rv w' → SchAt S w' [] es (.slice none 0 0) esv 0 → es.map Prod.fst = (re.map Prod.fst).map choOut → Q (.exit 12) c' w') :
    Code.wp Tryz.prog (Code.loop (loopsRm 6)) Q c w0 := by
  refine wp_loop (RmCAt w sv ev rv re S) (fun c' _ => re.length - (intOf (c'.tmps.getD 15 undef)).toNat) ⟨0, [], _, Nat.zero_le _, hc, hk, hs, rfl⟩ ?_
  clear hc hk hs
  rintro c wr ⟨i, es, esv, hi, hc, hk, hs, hes⟩
  have HRAW := Lib.hid h
  have HQ := Lib.hid hQ
  have HK := Lib.hid hk
  have HS := Lib.hid hs
  have HES := Lib.hid hes
  have HL := Lib.hid hlen
  have hesl : es.length ≤ 8 := by have := congrArg List.length hes; simp at this; omega
  obtain ⟨sa, sc, ea, ec, ra, rc, rfl, rfl, rfl⟩ := h.forms
  have hfe := row_few h.enums
  obtain ⟨u, rfl⟩ := hc.lit
  obtain ⟨_, p0, p1, p2, _⟩ := blk3 hk.raw
  have hbl : S < wr.heap.size := blk_lt hs.blk
  clear hc hQ hk hs hes h hlen
  conv => arg 2; whnf
  by_cases hlt : i < re.length
  · obtain ⟨g, cc, hv, hcc, hg, hcell⟩ := row_el choCells 3 (fun _ => rfl) (row_keep HK.out.bel HRAW.out.enums) i hlt
    obtain ⟨rfl, rfl⟩ := slice_inj hv
    have x0 : wr.cell? ⟨g, i * 3, none⟩ = some (.string (strOfNums re[i].1.name)) := hcell 0 (by omega)
    have HTK := Lib.hid (show (re.take (i + 1)).map (fun p => choOut p.1) = (re.take i).map (fun p => choOut p.1) ++ [choOut re[i].1] by
      rw [List.take_succ_eq_append_getElem hlt, List.map_append]; rfl)
    have HCO := Lib.hid (show choOut re[i].1 = ⟨strOfNums re[i].1.name, re[i].1.names.map tokT⟩ from rfl)
    have HLE := Lib.hid (HL.out _ (List.getElem_mem hlt))
    have hii : (i : Int) < re.length := by omega
    generalize hnm : strOfNums re[i].1.name = nm at *
    have hbt : Below wr.heap.size wr (wr.alloc (.cells #[.string nm, .slice none 0 0] 60)) := (Below.refl _ _).alloc (Nat.le_refl _) _
    have HBT := Lib.hid hbt
    have HT := Lib.hid (heap_alloc_new wr (.cells #[.string nm, .slice none 0 0] 60))
    have HKT := Lib.hid (HK.out.below hbt (by omega))
    clear hv hcell hbt hnm
    go_upto_region 41 with (fail)
    generalize wr.alloc (.cells #[.string nm, .slice none 0 0] 60) = Wt at *
    clear x0 p0 p1 p2
    go_wp2_with fail
    refine rmc2_wp (i := i) (T := wr.heap.size) HRAW.out ⟨rfl, rfl, rfl, rfl, rfl, rfl, rfl, rfl⟩ HKT.out hlt HT.out (by omega) HLE.out ?_
    intro c2 w2 nv hf hbel hC2 hrow2
    generalize hln : re[i].1.names.length = ln at *
    have HLN := Lib.hid hln
    obtain ⟨nva, nvc, rfl⟩ := ownsRow_form hrow2
    have hb3 : Below wr.heap.size wr w2 := HBT.out.trans (hbel.mono (by have := HBT.out.size; omega))
    have hs2 := HS.out.below hb3
    have HS2 := Lib.hid hs2
    have HK2 := Lib.hid (HK.out.below hb3 (by omega))
    have HROW := Lib.hid hrow2
    obtain ⟨_, z0, z1, z2, f0, f1, f2⟩ := blk3 hs2.blk
    obtain ⟨hCl, d0, d1, _⟩ := blk2 hC2
    obtain ⟨eva, evc, rfl⟩ := ownsRow_form hs2.rows.enums
    obtain ⟨i0, hi0, hzz0, hzz1, hzz2⟩ := info_parts scho_info
    have I1 := Lib.hid hi0
    have I2 := Lib.hid hzz0
    have I3 := Lib.hid hzz1
    have I4 := Lib.hid hzz2
    have hbs : S < w2.heap.size := blk_lt hs2.blk
    have HBN := Lib.hid (heap_alloc_new w2 (.cells #[.string nm, .slice nva ln nvc] 60))
    have HBA := Lib.hid ((Below.refl w2.heap.size w2).alloc (Nat.le_refl _) (.cells #[.string nm, .slice nva ln nvc] 60))
    obtain ⟨u2, rfl⟩ := hf.lit
    clear hf hbel hC2 hrow2 hb3 hs2 hi0 hzz0 hzz1 hzz2 HS HK hln
    simp only [Exit.inBlock, Exit.then]
    apply_assumption
    go_wp2_with (at_builtin; refine wpList_append_own _ rfl (.tmp 216) (.tmp 218) 30 rfl (S + 1) 60 i0 _ 2 40 Tryz.underlying30 I1.out I2.out I3.out I4.out rfl (by decide) _ es.length (schosCells es) rfl (row_keep HBA.out HS2.out.rows.enums) _ 1 1 [.string nm, .slice nva ln nvc] rfl rfl (World.news_of_block HBN.out) (by intro u hu; simp at hu; rcases hu with rfl | rfl <;> rfl) (by unfold maxLen; omega) (by omega) (by simp; omega) ?_; intro v4 W8 hown4 hg4 hx; clear hx; obtain ⟨a4, m4, rfl⟩ := ownsRow_form hown4; have s5 := SchAt.enum (q := (⟨nm, re[i].1.names.map tokT⟩, .slice nva ln nvc)) (HS2.out.below HBA.out) (by have h := ownsRow_base (row_keep HBA.out HROW.out) (show S + 1 ≤ wr.heap.size + 1 by omega); show World.ownsRow _ _ _ _ _ (re[i].1.names.map tokT).length (strsCells (re[i].1.names.map tokT)); rw [List.length_map, HLN.out]; exact h) hg4 hown4; have s4 : W8.heap[S]? = some (.cells #[.slice none 0 0, .slice eva es.length evc, .int .i64 0] 32 (0, 0)) := (hg4.block S (by simp; omega) (fun e => by have := (ownsRow_lt HS2.out.rows.enums _ e.symm).1; omega)).trans (HS2.out.below HBA.out).blk; obtain ⟨_, p0, p1, p2, q0, q1, q2⟩ := blk3 s4; have S5 := Lib.hid s5; have S6 := Lib.hid (bel_app HBA.out hbs hg4 (fun k hk => by have := (ownsRow_lt HS2.out.rows.enums k hk).1; omega) 1 (.slice a4 (es.length + 1) m4)); clear s5 s4 hown4 hg4)
    refine ⟨⟨i + 1, _, _, by omega, ⟨rfl, rfl, rfl, rfl, rfl, rfl⟩, HK2.out.below S6.out (by omega), S5.out, by rw [List.map_append, HES.out, HTK.out, HCO.out]; rfl⟩, ?_⟩
    show re.length - (intOf (.int .i64 ((i : Int) + 1))).toNat < re.length - (intOf (.int .i64 (i : Int))).toNat
    simp [intOf]; omega
  · obtain rfl : i = re.length := by omega
    clear hlt
    go_wp2
    exact HQ.out _ _ _ _ ⟨rfl, rfl, rfl, rfl, rfl, rfl⟩ HK.out HS.out (by rw [HES.out, List.take_length, List.map_map]; rfl)
end Go.Proofs.YtleclhnlojalbaaGreatDoor
namespace Go.Proofs.YtleclhnlojalbaaGreatDoor
open Go.ChangeShapes Go.WideShapes Go.ChangeAt Go.RowKit

theorem wsize_any (n : Int) (w : World) :
    Calls Tryz.prog 131 #[.int .u8 n] w fun e w' => e = .returned (.int .i64 (kSize n)) ∧ w = w' := by
  by_cases h : n < 1 ∨ 10 < n
  · have H := Lib.hid (kSize_else n h)
    have b1 : (n == 1) = false := by simp; omega
    have b2 : (n == 2) = false := by simp; omega
    have b3 : (n == 3) = false := by simp; omega
    have b4 : (n == 4) = false := by simp; omega
    have b5 : (n == 5) = false := by simp; omega
    have b6 : (n == 6) = false := by simp; omega
    have b7 : (n == 7) = false := by simp; omega
    have b8 : (n == 8) = false := by simp; omega
    have b9 : (n == 9) = false := by simp; omega
    have b10 : (n == 10) = false := by simp; omega
    clear h
    rw [H.out]
    go_enter Tryz.func131, Tryz.ntmps131
    go_wp2
    go_ret
    exact ⟨rfl, rfl⟩
  · have h' : n = 1 ∨ n = 2 ∨ n = 3 ∨ n = 4 ∨ n = 5 ∨ n = 6 ∨ n = 7 ∨ n = 8 ∨ n = 9 ∨ n = 10 := by omega
    clear h
    rcases h' with rfl | rfl | rfl | rfl | rfl | rfl | rfl | rfl | rfl | rfl
    all_goals
      go_enter Tryz.func131, Tryz.ntmps131
      go_wp2
      go_ret
      exact ⟨ret_int (by decide), rfl⟩
theorem wsign_any (n : Int) (w : World) :
    Calls Tryz.prog 132 #[.int .u8 n] w fun e w' => e = .returned (.bool (kSign n)) ∧ w = w' := by
  by_cases h1 : 2 ≤ n
  · by_cases h2 : n ≤ 5
    · rw [show kSign n = true from decide_eq_true ⟨h1, h2⟩]
      go_enter Tryz.func132, Tryz.ntmps132
      go_wp2
      go_ret
      exact ⟨rfl, rfl⟩
    · rw [show kSign n = false from decide_eq_false (fun h => h2 h.2)]
      go_enter Tryz.func132, Tryz.ntmps132
      go_wp2
      go_ret
      exact ⟨rfl, rfl⟩
  · rw [show kSign n = false from decide_eq_false (fun h => h1 h.1)]
    go_enter Tryz.func132, Tryz.ntmps132
    go_wp2
    go_ret
    exact ⟨rfl, rfl⟩
theorem wsize_still (n : Int) (w : World) : Calls Tryz.prog 131 #[.int .u8 n] w fun e w' => e = .returned (.int .i64 (kSize n)) ∧ w' = w := (wsize_any n w).mono fun _ _ h => ⟨h.1, h.2.symm⟩
theorem wsign_still (n : Int) (w : World) : Calls Tryz.prog 132 #[.int .u8 n] w fun e w' => e = .returned (.bool (kSign n)) ∧ w' = w := (wsign_any n w).mono fun _ _ h => ⟨h.1, h.2.symm⟩
end Go.Proofs.YtleclhnlojalbaaGreatDoor
namespace Go.Proofs.YtleclhnlojalbaaGreatDoor
open Go.ChangeShapes Go.WideShapes Go.ChangeAt Go.RowKit Go.Shelf

theorem numR_opt (x : Option Nat) : numR x = optV x := by cases x <;> rfl
theorem optV_form (x : Option Nat) : ∃ (d : Int) (o : Bool), optV x = .tuple #[.int .u64 d, .bool o] := by cases x <;> exact ⟨_, _, rfl⟩
theorem two_strs (W : World) (x y : ByteArray) : (W.alloc (.cells #[.string x, .string y] 9)).ownsRow W.heap.size 9 1 (.slice (some ⟨W.heap.size, 0, none⟩) 2 2) 2 (strsCells [x, y]) := by
  refine ⟨rfl, .inr ⟨W.heap.size, 2, #[.string x, .string y], rfl, Nat.le_refl _, heap_alloc_new W _, Nat.le_refl _, by unfold maxLen; omega, rfl, rfl⟩⟩
/-- Where the fields of a type and of a token stand. -/
structure ValIn (W : World) (A : Nat) (k r ls : Nat) (t : Tok) : Prop where
  ty : W.heap[A]? = some (.cells #[.int .u8 (k : Nat), .int .i64 (r : Nat), .int .i64 (ls : Nat)] 53 (0, 0))
  tok : W.heap[A + 1]? = some (.cells #[.int .i64 t.kind, .string (tokT t), .int .i64 t.place] 109 (0, 0))
set_option maxRecDepth 100000 in
set_option maxHeartbeats 4000000 in
theorem mvalue_any (W : World) {M b root base : Nat} {sv ev rv ssv esv : Value} {m : List NEnt} {es : List (SCho × Value)} {xs : List RCho} (hM : MAt W M b sv ev rv m ssv esv root) (hR : ChoRows base W es esv) (hes : es.map Prod.fst = xs.map choOut) (k r ls : Nat) (t : Tok)
    (hr : k = 10 → r < xs.length) (hE : ErrV W) (hsz : (tokT t).size ≤ 281474976710656) :
    Calls Tryz.prog 108 #[.pointer (some ⟨M, 0, none⟩), .agg #[.int .u8 (k : Nat), .int .i64 (r : Nat), .int .i64 (ls : Nat)], .agg #[.int .i64 t.kind, .string (tokT t), .int .i64 t.place]] W fun e w' => e = .returned (optV (valueM xs k r ls t)) ∧ Below W.heap.size W w' := by
  obtain ⟨hb, hq1, hq2⟩ := two_blk W #[.int .u8 (k : Nat), .int .i64 (r : Nat), .int .i64 (ls : Nat)] #[.int .i64 t.kind, .string (tokT t), .int .i64 t.place] 53 109
  have HM := Lib.hid (hM.fell hb)
  have HR := Lib.hid (hR.below hb)
  have HE := Lib.hid hE
  have HB := Lib.hid hb
  have HQ1 := Lib.hid hq1
  have HQ2 := Lib.hid hq2
  have HES := Lib.hid hes
  have HV : Hid (valueM xs k r ls t = if t.kind = 0 then some 0 else if ls ≠ 0 then none else if k = 1 then chooseM t falseTrue else if k = 10 then chooseM t (chosenM xs r) else if t.kind = 2 then numV (bts (tokT t)) (kSize k) (kSign k) else none) := Lib.hid rfl
  generalize valueM xs k r ls t = V at *
  clear hM hR hE hb hq1 hq2 hes
  go_enter Tryz.func108, Tryz.ntmps108
  go_upto_region 1 with (fail)
  generalize ((W.alloc (.cells #[.int .u8 (k : Nat), .int .i64 (r : Nat), .int .i64 (ls : Nat)] 53)).alloc (.cells #[.int .i64 t.kind, .string (tokT t), .int .i64 t.place] 109)) = W0 at *
  obtain ⟨_, y0, y1, y2, _⟩ := blk3 HQ1.out
  obtain ⟨_, t0, t1, t2, _⟩ := blk3 HQ2.out
  by_cases h0 : t.kind = 0
  · have HX := Lib.hid (HV.out.trans (if_pos h0))
    generalize t.kind = tk at *
    subst h0
    go_wp2
    go_ret2
    exact ⟨by rw [HX.out]; rfl, HB.out⟩
  have HV1 := Lib.hid (HV.out.trans (if_neg h0))
  have hb0 : (t.kind == 0) = false := by simpa using h0
  by_cases h1 : ls ≠ 0
  · have HX := Lib.hid (HV1.out.trans (if_pos h1))
    have hb1 : ¬ (ls : Int) = 0 := by omega
    have hb2 : ((ls : Int) != 0) = true := by simpa using h1
    clear h1
    go_wp2
    go_ret2
    exact ⟨by rw [HX.out]; rfl, HB.out⟩
  have HV2 := Lib.hid (HV1.out.trans (if_neg h1))
  obtain rfl : ls = 0 := by omega
  clear h1
  by_cases hk1 : k = 1
  · have HX := Lib.hid (HV2.out.trans (if_pos hk1))
    subst hk1
    have hrow := two_strs W0 ⟨#[102, 97, 108, 115, 101]⟩ ⟨#[116, 114, 117, 101]⟩
    have hba : Below W0.heap.size W0 (W0.alloc (.cells #[.string ⟨#[102, 97, 108, 115, 101]⟩, .string ⟨#[116, 114, 117, 101]⟩] 9)) := (Below.refl _ _).alloc (Nat.le_refl _) _
    have HCH := Lib.hid (choose_any t falseTrue _ _ _ hrow)
    have HBA := Lib.hid (HB.out.trans (hba.mono HB.out.size))
    clear hrow hba
    go_wp2_with fail
    refine HCH.out.mono ?_
    rintro e w' ⟨rfl, hb'⟩
    have HBF := Lib.hid (HBA.out.trans (hb'.mono HBA.out.size))
    clear hb'
    rw [← HX.out]
    cases V with
    | none =>
      simp only [optV]
      go_wp2
      go_ret2
      exact ⟨rfl, HBF.out⟩
    | some n =>
      simp only [optV]
      go_wp2
      go_ret2
      exact ⟨rfl, HBF.out⟩
  have HV3 := Lib.hid (HV2.out.trans (if_neg hk1))
  have hk1b : ((k : Int) == 1) = false := by simp; omega
  have hk1n : ¬ (k : Int) = 1 := by omega
  by_cases hk10 : k = 10
  · have HX := Lib.hid (HV3.out.trans (if_pos hk10))
    have hrl := hr hk10
    subst hk10
    have hel : es.length = xs.length := by have := congrArg List.length HES.out; simpa using this
    have hre : r < es.length := by omega
    obtain ⟨g, c, hv, hc, hg, hcell⟩ := row_el schoCells 2 (fun _ => rfl) HR.out.enums r hre
    have hnm := HR.out.names _ (List.getElem_mem hre)
    have heq : es[r].1 = choOut xs[r] := by
      have h1 : (es.map Prod.fst)[r]? = (xs.map choOut)[r]? := by rw [HES.out]
      rw [List.getElem?_map, List.getElem?_map, List.getElem?_eq_getElem hre, List.getElem?_eq_getElem hrl] at h1
      exact Option.some.inj h1
    have hch : chosenM xs r = es[r].1.names := by
      rw [heq]
      unfold chosenM
      rw [List.getD, List.getElem?_eq_getElem hrl]
      rfl
    obtain ⟨na, nc, hnv⟩ := ownsRow_form hnm
    have x1 : W0.cell? ⟨g, r * 2 + 1, none⟩ = some (.slice na es[r].1.names.length nc) := by rw [← hnv]; exact hcell 1 (by omega)
    have x0 : W0.cell? ⟨g, r * 2, none⟩ = some (.string es[r].1.name) := hcell 0 (by omega)
    rw [hnv] at hnm
    rw [hch] at HX
    generalize es[r].1.names = nm at *
    generalize es[r].1.name = nn at *
    subst hv
    obtain ⟨hMl, z0, z1, z2, z3, z4, z5, z6, _⟩ := HM.out.cells
    have HCH := Lib.hid (choose_any t nm (.slice na nm.length nc) base W0.drew hnm)
    have hri : (r : Int) < es.length := by omega
    clear hnm hcell hnv hch heq hel hr hrl HV HV1 HV2 HV3
    go_upto_region 8 with (fail)
    have hl1 : W.heap.size + 1 < W0.heap.size := blk_lt HQ2.out
    have HCC := Lib.hid (show ∀ w', Below W0.heap.size W0 w' → w'.cell? ⟨W.heap.size + 1, 0, none⟩ = some (.int .i64 t.kind) ∧ w'.cell? ⟨W.heap.size + 1, 1, none⟩ = some (.string (tokT t)) ∧ w'.cell? ⟨W.heap.size + 1, 2, none⟩ = some (.int .i64 t.place) ∧ w'.cell? ⟨W.heap.size, 1, none⟩ = some (.int .i64 r) ∧ w'.cell? ⟨M, 5, none⟩ = some (.slice (some ⟨g, 0, none⟩) es.length c) ∧ w'.cell? ⟨g, r * 2 + 1, none⟩ = some (.slice na nm.length nc) from fun w' h => ⟨(h.cell (p := ⟨W.heap.size + 1, 0, none⟩) hl1).trans t0, (h.cell (p := ⟨W.heap.size + 1, 1, none⟩) hl1).trans t1, (h.cell (p := ⟨W.heap.size + 1, 2, none⟩) hl1).trans t2, (h.cell (p := ⟨W.heap.size, 1, none⟩) (by show W.heap.size < _; omega)).trans y1, (h.cell (p := ⟨M, 5, none⟩) hMl).trans z5, (h.cell (p := ⟨g, r * 2 + 1, none⟩) hg).trans x1⟩)
    go_region_held3 (fun w' => w'.cell? ⟨W.heap.size + 1, 0, none⟩ = some (.int .i64 t.kind) ∧ w'.cell? ⟨W.heap.size + 1, 1, none⟩ = some (.string (tokT t)) ∧ w'.cell? ⟨W.heap.size + 1, 2, none⟩ = some (.int .i64 t.place) ∧ w'.cell? ⟨W.heap.size, 1, none⟩ = some (.int .i64 r) ∧ w'.cell? ⟨M, 5, none⟩ = some (.slice (some ⟨g, 0, none⟩) es.length c) ∧ w'.cell? ⟨g, r * 2 + 1, none⟩ = some (.slice na nm.length nc)) (first | assumption | go_keep) (first | (go_at_call 135; (with_reducible refine HCH.out.mono ?_); rintro e w' ⟨rfl, hb'⟩; have hbw := drew_below hb'; obtain ⟨k0, k1, k2, k3, k4, k5⟩ := HCC.out w' hbw; have HBF := Lib.hid (HB.out.trans (hbw.mono HB.out.size)); clear hb' hbw; rw [← HX.out]; obtain ⟨d, o, hdo⟩ := optV_form V; have HDO := Lib.hid hdo; rw [hdo]; clear hdo))
    all_goals
      simp only [Exit.then]
      apply_assumption
      go_wp2
      go_ret2
      exact ⟨by rw [HDO.out]; rfl, HBF.out⟩
  have HV4 := Lib.hid (HV3.out.trans (if_neg hk10))
  have hk2b : ((k : Int) == 10) = false := by simp; omega
  have hk2n : ¬ (k : Int) = 10 := by omega
  by_cases h2 : t.kind = 2
  · have HX := Lib.hid (HV4.out.trans (if_pos h2))
    have HLN := Lib.hid (lexNumber_any (tokT t) (kSize k) (kSign k) W0.drew (HE.out.later (HB.out.drew)) hsz)
    rw [numR_opt, ← HX.out] at HLN
    generalize t.kind = tk at *
    subst h2
    go_upto_region 10 with (fail)
    have hl1 : W.heap.size + 1 < W0.heap.size := blk_lt HQ2.out
    have HCC := Lib.hid (show ∀ w', Below W0.heap.size W0 w' → w'.cell? ⟨W.heap.size + 1, 1, none⟩ = some (.string (tokT t)) ∧ w'.cell? ⟨W.heap.size, 0, none⟩ = some (.int .u8 k) from fun w' h => ⟨(h.cell (p := ⟨W.heap.size + 1, 1, none⟩) hl1).trans t1, (h.cell (p := ⟨W.heap.size, 0, none⟩) (by show W.heap.size < _; omega)).trans y0⟩)
    go_region_held3 (fun w' => w'.cell? ⟨W.heap.size + 1, 1, none⟩ = some (.string (tokT t)) ∧ w'.cell? ⟨W.heap.size, 0, none⟩ = some (.int .u8 k)) (first | assumption | go_keep) (first | (go_at_call 131; refine (wsize_any _ _).mono ?_; rintro e w' ⟨rfl, rfl⟩) | (go_at_call 132; refine (wsign_any _ _).mono ?_; rintro e w' ⟨rfl, rfl⟩) | (go_at_call 136; (with_reducible refine HLN.out.mono ?_); rintro e w' ⟨rfl, hb'⟩; have hbw := drew_below hb'; obtain ⟨k0, k1⟩ := HCC.out w' hbw; have HBF := Lib.hid (HB.out.trans (hbw.mono HB.out.size)); clear hb' hbw; obtain ⟨d, o, hdo⟩ := optV_form V; have HDO := Lib.hid hdo; rw [hdo]; clear hdo))
    all_goals
      simp only [Exit.then]
      apply_assumption
      go_wp2
      go_ret2
      exact ⟨by rw [HDO.out]; rfl, HBF.out⟩
  · have HX := Lib.hid (HV4.out.trans (if_neg h2))
    have hb2 : (t.kind == 2) = false := by simpa using h2
    go_wp2
    go_ret2
    exact ⟨by rw [HX.out]; rfl, HB.out⟩
end Go.Proofs.YtleclhnlojalbaaGreatDoor
