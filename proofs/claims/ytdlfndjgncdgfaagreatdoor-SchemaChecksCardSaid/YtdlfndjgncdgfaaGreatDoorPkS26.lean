/-
  A plan's numbers, and those that are made of them, are numbers of their sizes; labels are short. No run of the program stands in this text. Conditions: those that each theorem names.
-/
import Derived.Test.YtdlfndjgncdgfaaGreatDoorPkS1
import Derived.Test.YtdlfndjgncdgfaaGreatDoorPkS7
import Derived.Test.YtdlfndjgncdgfaaGreatDoorPkS23
namespace Go.Proofs.YtdlfndjgncdgfaaGreatDoor
open Go.RowKit

def AllB (r : List Tok) : Prop := ∀ t ∈ r, t.text.length ≤ 281474976710656
theorem AllB.tail {r : List Tok} (h : AllB r) : AllB r.tail := fun t ht => h t (List.mem_of_mem_tail ht)
theorem AllB.hd {r : List Tok} (h : AllB r) : (hd r).text.length ≤ 281474976710656 := by
  cases r with
  | nil => exact Nat.zero_le _
  | cons t q => exact h t List.mem_cons_self
def Gv {α : Type} (P : α → Prop) : Res α → Prop
  | .ok a r => P a ∧ AllB r
  | .no _ _ => True
theorem gv_bind {α β : Type} {P : α → Prop} {Q : β → Prop} {x : Res α} {f : α → List Tok → Res β} (h : Gv P x) (hf : ∀ a r, P a → AllB r → Gv Q (f a r)) : Gv Q (x.bind f) := by
  cases x with
  | no c p => trivial
  | ok a r => exact hf a r h.1 h.2
theorem gv_bad {α : Type} {P : α → Prop} (c : Int) (r : List Tok) : Gv P (bad c r : Res α) := trivial
def Short (t : Tok) : Prop := t.text.length ≤ 40
theorem gv_want {s : List Int} {r : List Tok} (h : AllB r) : Gv (fun _ => True) (wantR s r) := by
  unfold wantR
  split
  · exact ⟨trivial, h.tail⟩
  · exact gv_bad _ _
theorem gv_sized {r : List Tok} (h : AllB r) : Gv Short (sizedR r) := by
  unfold sizedR
  split
  · exact gv_bad _ _
  · rename_i hn
    exact ⟨Nat.le_of_not_lt fun hc => hn (.inr hc), h.tail⟩
theorem gv_name {r : List Tok} (h : AllB r) : Gv Short (nameR r) := by
  unfold nameR
  split
  · exact gv_sized h
  · exact gv_bad _ _
theorem gv_label {r : List Tok} (h : AllB r) : Gv Short (labelR r) := by
  unfold labelR
  split
  · exact gv_sized h
  · exact gv_bad _ _
theorem gv_value {r : List Tok} (h : AllB r) : Gv (fun t : Tok => t.text.length ≤ 281474976710656) (valueR r) := by
  unfold valueR
  split
  · exact ⟨h.hd, h.tail⟩
  · exact gv_bad _ _
theorem gv_lists : ∀ (f n : Nat) {r : List Tok}, AllB r → Gv (fun _ => True) (listsR f n r)
  | 0, n, r, h => by
    unfold listsR
    split
    · exact gv_bad _ _
    · exact ⟨trivial, h⟩
  | f + 1, n, r, h => by
    unfold listsR
    split
    · exact gv_bind (gv_want h.tail) fun _ r' _ h' => gv_lists f (n + 1) h'
    · exact ⟨trivial, h⟩
theorem gv_close : ∀ (n : Nat) {r : List Tok}, AllB r → Gv (fun _ => True) (closeR n r)
  | 0, _, h => ⟨trivial, h⟩
  | n + 1, _, h => gv_bind (gv_want h) fun _ _ _ h' => gv_close n h'
theorem gv_ty {r : List Tok} (h : AllB r) : Gv (fun y : RTy => y.name.length ≤ 40) (tyR r) :=
  gv_bind (gv_lists 3 0 h) fun n _ _ h1 => gv_bind (gv_name h1) fun _ _ ht h2 => gv_bind (gv_close n h2) fun _ _ _ h3 => ⟨ht, h3⟩
theorem gv_dflt {r : List Tok} (h : AllB r) : Gv (fun t : Tok => t.text.length ≤ 281474976710656) (dfltR r) := by
  unfold dfltR
  split
  · exact gv_value h.tail
  · exact ⟨Nat.zero_le _, h⟩
def FldOk (f : RField) : Prop := f.name.length ≤ 40 ∧ f.ty.name.length ≤ 40 ∧ f.dflt.text.length ≤ 281474976710656
theorem gv_field {r : List Tok} (h : AllB r) : Gv FldOk (fieldR r) :=
  gv_bind (gv_label h) fun _ _ ht h1 => gv_bind (gv_want h1) fun _ _ _ h2 => gv_bind (gv_ty h2) fun _ _ hy h3 => gv_bind (gv_dflt h3) fun _ _ hd h4 => gv_bind (gv_want h4) fun _ _ _ h5 => ⟨⟨ht, hy, hd⟩, h5⟩
theorem snoc_all {α : Type} {P : α → Prop} {l : List α} {x : α} (h : ∀ y ∈ l, P y) (hx : P x) : ∀ y ∈ l ++ [x], P y := by
  intro y hy
  rcases List.mem_append.1 hy with hy | hy
  · exact h y hy
  · rw [List.mem_singleton.1 hy]
    exact hx
theorem gv_fields : ∀ (f : Nat) {acc : List RField} {r : List Tok}, (∀ x ∈ acc, FldOk x) → AllB r → Gv (fun l : List RField => ∀ x ∈ l, FldOk x) (fieldsR f acc r)
  | 0, acc, r, ha, h => gv_bad _ _
  | f + 1, acc, r, ha, h => by
    unfold fieldsR
    split
    · exact ⟨ha, h.tail⟩
    · exact gv_bind (gv_field h) fun x r' hx h' => gv_fields f (snoc_all ha hx) h'
def RecOk (s : RRec) : Prop := s.name.length ≤ 40 ∧ ∀ f ∈ s.fields, FldOk f
theorem gv_rec {r : List Tok} (h : AllB r) : Gv RecOk (recR r) :=
  gv_bind (gv_name h) fun t r1 ht h1 => gv_bind (gv_want h1) fun _ r2 _ h2 => gv_bind (gv_fields r2.length (fun _ hx => by cases hx) h2) fun fs r3 hf h3 => ⟨⟨ht, hf⟩, h3⟩
theorem gv_comma {r : List Tok} (h : AllB r) : Gv (fun _ => True) (commaR r) := by
  unfold commaR
  split
  · exact ⟨trivial, h⟩
  · exact gv_want h
theorem gv_names : ∀ (f : Nat) {acc : List Tok} {r : List Tok}, (∀ x ∈ acc, Short x) → AllB r → Gv (fun l : List Tok => ∀ x ∈ l, Short x) (namesR f acc r)
  | 0, acc, r, ha, h => gv_bad _ _
  | f + 1, acc, r, ha, h => by
    unfold namesR
    split
    · exact ⟨ha, h.tail⟩
    · exact gv_bind (gv_name h) fun t r1 ht h1 => gv_bind (gv_comma h1) fun _ r2 _ h2 => gv_names f (snoc_all ha ht) h2
def ChoOk (s : RCho) : Prop := s.name.length ≤ 40 ∧ ∀ t ∈ s.names, Short t
theorem gv_cho {r : List Tok} (h : AllB r) : Gv ChoOk (choR r) :=
  gv_bind (gv_name h) fun t r1 ht h1 => gv_bind (gv_want h1) fun _ r2 _ h2 => gv_bind (gv_names r2.length (fun _ hx => by cases hx) h2) fun fs r3 hf h3 => ⟨⟨ht, hf⟩, h3⟩
structure RawFit (x : RRaw) : Prop where
  st : ∀ s ∈ x.structs, RecOk s
  en : ∀ e ∈ x.enums, ChoOk e
  rt : ∀ t ∈ x.roots, Short t
theorem gv_part {a : RRaw} {r : List Tok} (ha : RawFit a) (h : AllB r) : Gv RawFit (partR a r) := by
  unfold partR
  split
  · exact gv_bind (gv_rec h.tail) fun s r' hs h' => ⟨⟨snoc_all ha.st hs, ha.en, ha.rt⟩, h'⟩
  · split
    · exact gv_bind (gv_cho h.tail) fun s r' hs h' => ⟨⟨ha.st, snoc_all ha.en hs, ha.rt⟩, h'⟩
    · split
      · exact gv_bind (gv_name h.tail) fun t r1 ht h1 => gv_bind (gv_want h1) fun _ r' _ h' => ⟨⟨ha.st, ha.en, snoc_all ha.rt ht⟩, h'⟩
      · exact gv_bad _ _
theorem gv_schema : ∀ (f : Nat) {a : RRaw} {r : List Tok}, RawFit a → AllB r → Gv RawFit (schemaR f a r)
  | 0, a, r, ha, h => gv_bad _ _
  | f + 1, a, r, ha, h => by
    unfold schemaR
    split
    · exact ⟨ha, h⟩
    · exact gv_bind (gv_part ha h) fun a' r' ha' h' => gv_schema f ha' h'
theorem rawR_fit {l : List Tok} (h : AllB l) : Gv RawFit (rawR l) :=
  gv_schema l.length ⟨(fun _ hx => by cases hx), (fun _ hx => by cases hx), (fun _ hx => by cases hx)⟩ h
theorem RawFit.ok {x : RRaw} (h : RawFit x) : RawOk x where
  en := fun e he => ⟨Nat.le_trans (h.en e he).1 (by decide), fun t ht => Nat.le_trans ((h.en e he).2 t ht) (by decide)⟩
  st := fun s hs => ⟨Nat.le_trans (h.st s hs).1 (by decide), fun f hf => ⟨((h.st s hs).2 f hf).2.2, Nat.le_trans ((h.st s hs).2 f hf).1 (by decide)⟩⟩
end Go.Proofs.YtdlfndjgncdgfaaGreatDoor
namespace Go.Proofs.YtdlfndjgncdgfaaGreatDoor
open Go.ChangeShapes Go.WideShapes Go.ChangeAt Go.RowKit Go.Shelf

def LensOk (p : Plan) (i : Nat) : Prop := ∀ j, j < i → 1 ≤ (p.structs.getD j []).length ∧ (p.structs.getD j []).length ≤ 16
def RecsInv (w : World) (p : Plan) (es : List (SCho × Value)) (ev x0 x1 : Value) (b n1 rt : Nat) (c' : Act) (w' : World) : Prop :=
  ∃ (i : Nat) (ss : List (SRec × Value)) (sv : Value), i ≤ n1 ∧ FrC b i c' ∧ MKeeps w b x0 x1 p.root p.tree w' ∧ SchAt (b + 2) w' ss es sv ev rt ∧ ss.map Prod.fst = recsP p i ∧ LensOk p i
set_option maxRecDepth 100000 in
set_option maxHeartbeats 4000000 in
theorem recs_wp {Q : Exit → Act → World → Prop} {c : Act} {w w0 : World} {p : Plan} {a0 a1 : Option Addr} {n0 e0 n1 c1 b rt : Nat} {es : List (SCho × Value)} {ev : Value} (hp : IsPlan w p a0 n0 e0 a1 n1 c1) (h8 : n0 ≤ 8) (h16 : n1 ≤ 16) (hc : FrC b 0 c)
    (hk : MKeeps w b (.slice a0 n0 e0) (.slice a1 n1 c1) p.root p.tree w0) (hs : SchAt (b + 2) w0 [] es (.slice none 0 0) ev rt) (hes : es.map Prod.fst = chosP p n0)
    (hQ : ∀ c' w' ss sv, FrC b n1 c' → MKeeps w b (.slice a0 n0 e0) (.slice a1 n1 c1) p.root p.tree w' → SchAt (b + 2) w' ss es sv ev rt → ss.map Prod.fst = recsP p n1 → LensOk p n1 → Q (.exit 4) c' w')
    (hB : ∀ c' w' j, FrC b j c' → w'.heap[b + 1]? = some (.cells #[.slice none 0 0, .slice none 0 0, .int .i64 0] 30 (0, 0)) → Below b w w' → j < n1 → ¬ (1 ≤ (p.structs.getD j []).length ∧ (p.structs.getD j []).length ≤ 16) → Q .ret c' w') :
    Code.wp Tryz.prog (Code.loop (madeLoop 2)) Q c w0 := by
  refine wp_loop (RecsInv w p es ev (.slice a0 n0 e0) (.slice a1 n1 c1) b n1 rt)
    (fun c' _ => n1 - (intOf (c'.tmps.getD 8 undef)).toNat) ⟨0, [], _, Nat.zero_le _, hc, hk, hs, rfl, fun j hj => absurd hj (Nat.not_lt_zero j)⟩ ?_
  clear hc hk hs
  rintro c wr ⟨i, ss, sv, hi, hc, hk, hs, hss, hlen⟩
  have HP := Lib.hid hp
  have HQ := Lib.hid hQ
  have HBAD := Lib.hid hB
  have HK := Lib.hid hk
  have HS := Lib.hid hs
  have HES := Lib.hid hes
  have HSS := Lib.hid hss
  have HLEN := Lib.hid hlen
  have hssl : ss.length ≤ 16 := by have := congrArg List.length hss; rw [recsP_length] at this; simp at this; omega
  obtain ⟨u, rfl⟩ := frc_lit hc
  have y1 := (blk_cell hk.box 1).trans rfl
  have hbl : b + 2 < wr.heap.size := blk_lt hs.blk
  clear hc hQ hB hk hs hp hes hss hlen
  conv => arg 2; whnf
  by_cases hlt : i < n1
  · obtain ⟨B, off, a, n, cc, rfl, hB0, hz, hn, hnc, hcm, hfl⟩ := HP.out.s_at i hlt
    have hB : B < b := by rw [HK.out.hb]; exact hB0
    have hzr := (HK.out.bel.cell (p := ⟨B, off + i, none⟩) hB).trans hz
    have HFL := Lib.hid hfl
    have HN := Lib.hid hn
    clear hfl hz hB0
    by_cases hb1 : n < 1
    · obtain ⟨_, _, _, _, s0, s1, s2⟩ := blk3 HK.out.res
      clear hn
      go_wp2
      refine HBAD.out _ _ i ⟨rfl, rfl, rfl, rfl, rfl, rfl, rfl⟩ (blk_set3 HK.out.res _ _ _) (((HK.out.bel.setCell (p := ⟨b + 1, 0, none⟩) (by show b ≤ b + 1; omega) _).setCell (p := ⟨b + 1, 1, none⟩) (by show b ≤ b + 1; omega) _).setCell (p := ⟨b + 1, 2, none⟩) (by show b ≤ b + 1; omega) _) hlt (by rw [HN.out]; omega)
    · by_cases hb2 : 16 < n
      · obtain ⟨_, _, _, _, s0, s1, s2⟩ := blk3 HK.out.res
        clear hn
        go_wp2
        refine HBAD.out _ _ i ⟨rfl, rfl, rfl, rfl, rfl, rfl, rfl⟩ (blk_set3 HK.out.res _ _ _) (((HK.out.bel.setCell (p := ⟨b + 1, 0, none⟩) (by show b ≤ b + 1; omega) _).setCell (p := ⟨b + 1, 1, none⟩) (by show b ≤ b + 1; omega) _).setCell (p := ⟨b + 1, 2, none⟩) (by show b ≤ b + 1; omega) _) hlt (by rw [HN.out]; omega)
      · have kc := one_str
        have hsz : ¬ 9223372036854775807 < 1 + (strOfNums [97 + (i : Int)]).size := by rw [strOfNums_size]; simp
        obtain ⟨hbw2, hB1, hB2⟩ := two_start wr #[.int .u8 (97 + (i : Int))] #[.string (recName i), .slice none 0 0] 5 54
        have HB2 := Lib.hid hbw2
        have HBB := Lib.hid hB2
        clear hbw2 hB1 hB2 hn
        go_wp2_with fail
        refine flds_wp (a0 := a0) (c1 := c1) (R := wr.heap.size + 1) (rn := .string (recName i)) (l := p.structs.getD i []) ?_ (by omega) HK.out HS.out HES.out HP.out.e_len HP.out.s_len hlt h16 h8 HB2.out (by omega) HBB.out ⟨rfl, rfl, rfl, rfl, rfl, rfl, rfl, rfl, rfl, rfl⟩ ?_
        · intro k hk
          obtain ⟨b', off', f, hf, ha, hbf, x0, x1, x2, x3, x4, q0, q1, q2, q3, q4⟩ := HFL.out k hk
          rw [hf]
          exact ⟨b', off', ⟨ha, hbf, x0, x1, x2, x3, x4, q0, q1, q2, q3, q4⟩⟩
        intro c2 w2 fv hf hbel hR2 hrow2
        obtain ⟨fva, fvc, rfl⟩ := ownsRow_form hrow2
        have hb3 : Below wr.heap.size wr w2 := HB2.out.trans (hbel.mono (by omega))
        have hs2 := HS.out.below hb3
        have HS2 := Lib.hid hs2
        have HK2 := Lib.hid (HK.out.below hb3 (by omega))
        have HROW := Lib.hid hrow2
        have HPR : Hid (recP p i = ⟨recName i, fldsP p i (p.structs.getD i []) n⟩) := Lib.hid (by unfold recP; rw [HN.out])
        have HFN : Hid ((fldsP p i (p.structs.getD i []) n).length = n) := Lib.hid (fldsP_length _ _ _ _)
        have HLI : Hid (LensOk p (i + 1)) := Lib.hid (fun j hj => by
          rcases Nat.lt_or_ge j i with h | h
          · exact HLEN.out j h
          · obtain rfl : j = i := by omega
            rw [HN.out]
            omega)
        generalize fldsP p i (p.structs.getD i []) n = FL at *
        obtain ⟨_, z0, z1, z2, f0, f1, f2⟩ := blk3 hs2.blk
        obtain ⟨hCl, d0, d1, _⟩ := blk2 hR2
        obtain ⟨sva, svc, rfl⟩ := ownsRow_form hs2.rows.structs
        obtain ⟨i0, hi0, hzz0, hzz1, hzz2⟩ := info_parts srec_info
        have I1 := Lib.hid hi0
        have I2 := Lib.hid hzz0
        have I3 := Lib.hid hzz1
        have I4 := Lib.hid hzz2
        have hbs : b + 2 < w2.heap.size := blk_lt hs2.blk
        have HBN := Lib.hid (heap_alloc_new w2 (.cells #[.string (recName i), .slice fva n fvc] 54))
        have HBA := Lib.hid ((Below.refl w2.heap.size w2).alloc (Nat.le_refl _) (.cells #[.string (recName i), .slice fva n fvc] 54))
        obtain ⟨u2, rfl⟩ := frd_lit hf
        clear hf hbel hR2 hrow2 hb3 hs2 hi0 hzz0 hzz1 hzz2 HS HK y1 kc hsz hzr
        simp only [Exit.inBlock, Exit.then]
        apply_assumption
        go_wp2_with (at_builtin; refine wpList_append_own _ rfl (.tmp 235) (.tmp 237) 27 rfl (b + 2 + 1) 54 i0 _ 2 40 Tryz.underlying27 I1.out I2.out I3.out I4.out rfl (by decide) _ ss.length (srecsCells ss) rfl (row_keep HBA.out HS2.out.rows.structs) _ 1 1 [.string (recName i), .slice fva n fvc] rfl rfl (World.news_of_block HBN.out) (by intro u hu; simp at hu; rcases hu with rfl | rfl <;> rfl) (by unfold maxLen; omega) (by omega) (by simp; omega) ?_; intro v4 W8 hown4 hg4 hx; clear hx; obtain ⟨a4, m4, rfl⟩ := ownsRow_form hown4; have s5 := SchAt.strct (q := (⟨recName i, FL⟩, .slice fva n fvc)) (HS2.out.below HBA.out) (by have h := ownsRow_base (row_keep HBA.out HROW.out) (show b + 2 + 1 ≤ wr.heap.size + 1 + 1 by omega); show World.ownsRow _ _ _ _ _ FL.length (sfldsCells FL); rw [HFN.out]; exact h) hg4 hown4; have s4 : W8.heap[b + 2]? = some (.cells #[.slice sva ss.length svc, ev, .int .i64 rt] 30 (0, 0)) := (hg4.block (b + 2) (by simp; omega) (fun e => by have := (ownsRow_lt HS2.out.rows.structs _ e.symm).1; omega)).trans (HS2.out.below HBA.out).blk; obtain ⟨_, p0, p1, p2, q0, q1, q2⟩ := blk3 s4; have S5 := Lib.hid s5; have S6 := Lib.hid (bel_app HBA.out hbs hg4 (fun k hk => by have := (ownsRow_lt HS2.out.rows.structs k hk).1; omega) 0 (.slice a4 (ss.length + 1) m4)); clear s5 s4 hown4 hg4)
        refine ⟨⟨i + 1, _, _, by omega, ⟨rfl, rfl, rfl, rfl, rfl, rfl, rfl⟩, HK2.out.below S6.out (Nat.le_refl _), S5.out, by rw [List.map_append, HSS.out, recsP_succ, HPR.out]; rfl, HLI.out⟩, ?_⟩
        show n1 - (intOf (.int .i64 ((i : Int) + 1))).toNat < n1 - (intOf (.int .i64 (i : Int))).toNat
        simp [intOf]; omega
  · obtain rfl : i = n1 := by omega
    clear hlt
    go_wp2
    exact HQ.out _ _ _ _ ⟨rfl, rfl, rfl, rfl, rfl, rfl, rfl⟩ HK.out HS.out HSS.out HLEN.out
end Go.Proofs.YtdlfndjgncdgfaaGreatDoor
namespace Go.Proofs.YtdlfndjgncdgfaaGreatDoor
open Go.ChangeShapes Go.WideShapes Go.ChangeAt Go.RowKit Go.Shelf

def MadePost (p : Plan) (w : World) (e : Ending) (w' : World) : Prop :=
  Below w.heap.size w w' ∧ ((planOk p ∧ ∃ ss es sv ev, e = .returned (.tuple #[.agg #[sv, ev, .int .i64 (p.root % p.structs.length : Nat)], .bool true]) ∧ ss.map Prod.fst = recsP p p.structs.length ∧ es.map Prod.fst = chosP p p.enums.length ∧ SchRows w.heap.size w' ss es sv ev) ∨
    (¬ planOk p ∧ e = .returned (.tuple #[.agg #[.slice none 0 0, .slice none 0 0, .int .i64 0], .bool false])))
theorem made_no {p : Plan} {w w' : World} (h : ¬ planOk p) (hb : Below w.heap.size w w') : MadePost p w (.returned (.tuple #[.agg #[.slice none 0 0, .slice none 0 0, .int .i64 0], .bool false])) w' := ⟨hb, .inr ⟨h, rfl⟩⟩
theorem lens_ok {p : Plan} (h1 : 1 ≤ p.structs.length) (h2 : p.structs.length ≤ 16) (h3 : p.enums.length ≤ 8) (h : LensOk p p.structs.length) : planOk p := by
  refine ⟨h1, h2, h3, fun l hl => ?_⟩
  obtain ⟨j, hj, rfl⟩ := List.getElem_of_mem hl
  have := h j hj
  rwa [List.getD, List.getElem?_eq_getElem hj] at this
theorem lens_bad {p : Plan} {j : Nat} (hj : j < p.structs.length) (h : ¬ (1 ≤ (p.structs.getD j []).length ∧ (p.structs.getD j []).length ≤ 16)) : ¬ planOk p := by
  intro ho
  apply h
  rw [List.getD, List.getElem?_eq_getElem hj]
  exact ho.2.2.2 _ (List.getElem_mem hj)
set_option maxRecDepth 100000 in
set_option maxHeartbeats 4000000 in
theorem made_bad (p : Plan) (w : World) {a0 a1 : Option Addr} {n0 e0 n1 c1 : Nat} (hp : IsPlan w p a0 n0 e0 a1 n1 c1) (hg : ¬ (1 ≤ n1 ∧ n1 ≤ 16 ∧ n0 ≤ 8)) :
    Calls Tryz.prog 7 #[.agg #[.slice a0 n0 e0, .slice a1 n1 c1, .int .u8 p.root, .bool p.tree]] w (MadePost p w) := by
  obtain ⟨hb, hz1, hz2⟩ := two_start w #[.slice a0 n0 e0, .slice a1 n1 c1, .int .u8 p.root, .bool p.tree] #[.slice none 0 0, .slice none 0 0, .int .i64 0] 25 30
  have HP := Lib.hid hp
  have HB := Lib.hid hb
  have HZ1 := Lib.hid hz1
  have HZ2 := Lib.hid hz2
  have hrt := hp.rt
  have hcaps : n0 ≤ 9223372036854775807 ∧ n1 ≤ 9223372036854775807 := by
    have h1 := hp.e_cap
    have h2 := hp.s_cap
    unfold maxLen at h1 h2
    omega
  obtain ⟨hn0, hn1⟩ := hcaps
  have y0 := (blk_cell hz1 0).trans rfl
  have y1 := (blk_cell hz1 1).trans rfl
  have y2 := (blk_cell hz1 2).trans rfl
  obtain ⟨_, _, _, _, s0, s1, s2⟩ := blk3 hz2
  clear hp hb hz1 hz2
  have HNO : Hid (¬ planOk p) := Lib.hid (fun ho => hg ⟨by rw [← HP.out.s_len]; exact ho.1, by rw [← HP.out.s_len]; exact ho.2.1, by rw [← HP.out.e_len]; exact ho.2.2.1⟩)
  by_cases g1 : n1 < 1
  · have t1 : decide ((n1 : Int) < 1) = true := decide_eq_true (by omega)
    clear hg
    go_enter Tryz.func7, Tryz.ntmps7
    go_wp2
    refine post_gen (fun Wf => Wf.heap[w.heap.size + 1]? = some (.cells #[.slice none 0 0, .slice none 0 0, .int .i64 0] 30 (0, 0)) ∧ Below w.heap.size w Wf) ⟨?_, ?_⟩ ?_
    · first
        | exact HZ2.out
        | exact blk_set3 HZ2.out _ _ _
    · first
        | exact HB.out
        | exact ((HB.out.setCell (p := ⟨w.heap.size + 1, 0, none⟩) (Nat.le_succ _) _).setCell (p := ⟨w.heap.size + 1, 1, none⟩) (Nat.le_succ _) _).setCell (p := ⟨w.heap.size + 1, 2, none⟩) (Nat.le_succ _) _
    · rintro Wf ⟨e1, e2⟩
      obtain ⟨_, d0, d1, d2, _⟩ := blk3 e1
      exact bodyPost_ret (v := .tuple #[.agg #[.slice none 0 0, .slice none 0 0, .int .i64 0], .bool false]) (by simp [results, Tryz.results7, go_sem, d0, d1, d2]) rfl (made_no (HNO.out) e2)
  · by_cases g2 : 16 < n1
    · have t1 : decide ((n1 : Int) < 1) = false := decide_eq_false (by omega)
      have t2 : decide ((16 : Int) < n1) = true := decide_eq_true (by omega)
      clear hg
      go_enter Tryz.func7, Tryz.ntmps7
      go_wp2
      refine post_gen (fun Wf => Wf.heap[w.heap.size + 1]? = some (.cells #[.slice none 0 0, .slice none 0 0, .int .i64 0] 30 (0, 0)) ∧ Below w.heap.size w Wf) ⟨?_, ?_⟩ ?_
      · first
        | exact HZ2.out
        | exact blk_set3 HZ2.out _ _ _
      · first
        | exact HB.out
        | exact ((HB.out.setCell (p := ⟨w.heap.size + 1, 0, none⟩) (Nat.le_succ _) _).setCell (p := ⟨w.heap.size + 1, 1, none⟩) (Nat.le_succ _) _).setCell (p := ⟨w.heap.size + 1, 2, none⟩) (Nat.le_succ _) _
      · rintro Wf ⟨e1, e2⟩
        obtain ⟨_, d0, d1, d2, _⟩ := blk3 e1
        exact bodyPost_ret (v := .tuple #[.agg #[.slice none 0 0, .slice none 0 0, .int .i64 0], .bool false]) (by simp [results, Tryz.results7, go_sem, d0, d1, d2]) rfl (made_no (HNO.out) e2)
    · have g3 : 8 < n0 := by omega
      have t1 : decide ((n1 : Int) < 1) = false := decide_eq_false (by omega)
      have t2 : decide ((16 : Int) < n1) = false := decide_eq_false (by omega)
      have t3 : decide ((8 : Int) < n0) = true := decide_eq_true (by omega)
      clear hg
      go_enter Tryz.func7, Tryz.ntmps7
      go_wp2
      refine post_gen (fun Wf => Wf.heap[w.heap.size + 1]? = some (.cells #[.slice none 0 0, .slice none 0 0, .int .i64 0] 30 (0, 0)) ∧ Below w.heap.size w Wf) ⟨?_, ?_⟩ ?_
      · first
        | exact HZ2.out
        | exact blk_set3 HZ2.out _ _ _
      · first
        | exact HB.out
        | exact ((HB.out.setCell (p := ⟨w.heap.size + 1, 0, none⟩) (Nat.le_succ _) _).setCell (p := ⟨w.heap.size + 1, 1, none⟩) (Nat.le_succ _) _).setCell (p := ⟨w.heap.size + 1, 2, none⟩) (Nat.le_succ _) _
      · rintro Wf ⟨e1, e2⟩
        obtain ⟨_, d0, d1, d2, _⟩ := blk3 e1
        exact bodyPost_ret (v := .tuple #[.agg #[.slice none 0 0, .slice none 0 0, .int .i64 0], .bool false]) (by simp [results, Tryz.results7, go_sem, d0, d1, d2]) rfl (made_no (HNO.out) e2)
end Go.Proofs.YtdlfndjgncdgfaaGreatDoor
namespace Go.Proofs.YtdlfndjgncdgfaaGreatDoor
open Go.ChangeShapes Go.WideShapes Go.ChangeAt Go.RowKit Go.Shelf

set_option maxRecDepth 100000 in
set_option maxHeartbeats 4000000 in
theorem made_any (p : Plan) (w : World) {a0 a1 : Option Addr} {n0 e0 n1 c1 : Nat} (hp : IsPlan w p a0 n0 e0 a1 n1 c1) :
    Calls Tryz.prog 7 #[.agg #[.slice a0 n0 e0, .slice a1 n1 c1, .int .u8 p.root, .bool p.tree]] w (MadePost p w) := by
  obtain ⟨hb, hz1, hz2⟩ := two_start w #[.slice a0 n0 e0, .slice a1 n1 c1, .int .u8 p.root, .bool p.tree] #[.slice none 0 0, .slice none 0 0, .int .i64 0] 25 30
  have HP := Lib.hid hp
  have HB := Lib.hid hb
  have HZ1 := Lib.hid hz1
  have HZ2 := Lib.hid hz2
  have hrt := hp.rt
  have hcaps : n0 ≤ 9223372036854775807 ∧ n1 ≤ 9223372036854775807 := by
    have h1 := hp.e_cap
    have h2 := hp.s_cap
    unfold maxLen at h1 h2
    omega
  obtain ⟨hn0, hn1⟩ := hcaps
  have y0 := (blk_cell hz1 0).trans rfl
  have y1 := (blk_cell hz1 1).trans rfl
  have y2 := (blk_cell hz1 2).trans rfl
  obtain ⟨_, _, _, _, s0, s1, s2⟩ := blk3 hz2
  clear hp hb hz1 hz2
  by_cases hg : 1 ≤ n1 ∧ n1 ≤ 16 ∧ n0 ≤ 8
  · obtain ⟨g1, g2, g3⟩ := hg
    have hmod : (p.root : Int) % (n1 : Int) = ((p.root % n1 : Nat) : Int) := (Int.natCast_emod _ _).symm
    have hz0 : (n1 : Int) ≠ 0 := by omega
    have HRT : Hid (p.root % n1 = p.root % p.structs.length) := Lib.hid (by rw [HP.out.s_len])
    generalize p.root % n1 = rt at *
    have hsz : ((w.alloc (.cells #[.slice a0 n0 e0, .slice a1 n1 c1, .int .u8 p.root, .bool p.tree] 25)).alloc (.cells #[.slice none 0 0, .slice none 0 0, .int .i64 0] 30)).heap.size = w.heap.size + 2 := by simp
    have HSZ := Lib.hid hsz
    clear hsz
    go_enter Tryz.func7, Tryz.ntmps7
    go_upto_region 4 with (fail)
    generalize (w.alloc (.cells #[.slice a0 n0 e0, .slice a1 n1 c1, .int .u8 p.root, .bool p.tree] 25)).alloc (.cells #[.slice none 0 0, .slice none 0 0, .int .i64 0] 30) = W0 at *
    have hba : Below W0.heap.size W0 (W0.alloc (.cells #[.slice none 0 0, .slice none 0 0, .int .i64 rt] 30)) := (Below.refl _ _).alloc (Nat.le_refl _) _
    have hba2 := hba
    rw [HSZ.out] at hba2
    have HK1 : Hid (MKeeps w w.heap.size (.slice a0 n0 e0) (.slice a1 n1 c1) p.root p.tree (W0.alloc (.cells #[.slice none 0 0, .slice none 0 0, .int .i64 rt] 30))) := Lib.hid ⟨rfl, blk_below HZ1.out hba (blk_lt HZ1.out), blk_below HZ2.out hba (blk_lt HZ2.out), HB.out.trans (hba.mono HB.out.size)⟩
    have hnew := heap_alloc_new W0 (.cells #[.slice none 0 0, .slice none 0 0, .int .i64 rt] 30)
    rw [HSZ.out] at hnew
    have HS1 : Hid (SchAt (w.heap.size + 2) (W0.alloc (.cells #[.slice none 0 0, .slice none 0 0, .int .i64 rt] 30)) [] [] (.slice none 0 0) (.slice none 0 0) rt) := Lib.hid ⟨hnew, World.ownsRow_nil _ _ _ _, World.ownsRow_nil _ _ _ _, (fun q hq => by cases hq), (fun q hq => by cases hq)⟩
    clear hba hba2 hnew y0 y1 y2 s0 s1 s2
    generalize W0.alloc (.cells #[.slice none 0 0, .slice none 0 0, .int .i64 rt] 30) = W1 at *
    go_wp2_with fail
    refine enums_wp HP.out g3 ⟨rfl, rfl, rfl, rfl, rfl, rfl, rfl⟩ HK1.out HS1.out ?_
    intro c2 w2 es ev hf hk hs hes
    have HK2 := Lib.hid hk
    have HS2 := Lib.hid hs
    have HES := Lib.hid hes
    obtain ⟨u, rfl⟩ := fra_lit hf
    clear hf hk hs hes
    simp only [Exit.inBlock, Exit.then]
    apply_assumption
    go_wp2_with fail
    refine recs_wp HP.out g3 g2 ⟨rfl, rfl, rfl, rfl, rfl, rfl, rfl⟩ HK2.out HS2.out HES.out ?_ ?_
    · intro c3 w3 ss sv hf hk hs hss hlen
      have HK3 := Lib.hid hk
      have HS3 := Lib.hid hs
      have HOK : Hid (planOk p) := Lib.hid (lens_ok (by rw [HP.out.s_len]; exact g1) (by rw [HP.out.s_len]; exact g2) (by rw [HP.out.e_len]; exact g3) (by rw [HP.out.s_len]; exact hlen))
      have HSS := Lib.hid hss
      obtain ⟨_, o0, o1, o2, _⟩ := blk3 hs.blk
      obtain ⟨_, r0, r1, r2, q0, q1, q2⟩ := blk3 hk.res
      obtain ⟨u3, rfl⟩ := frc_lit hf
      obtain ⟨sva, svc, eva, evc, rfl, rfl⟩ := hs.rows.forms
      clear hf hk hs hss hlen
      simp only [Exit.inBlock, Exit.then]
      apply_assumption
      go_wp2
      refine post_gen (fun Wf => Wf.heap[w.heap.size + 1]? = some (.cells #[.slice sva ss.length svc, .slice eva es.length evc, .int .i64 rt] 30 (0, 0)) ∧ Below w.heap.size w Wf ∧ SchRows w.heap.size Wf ss es (.slice sva ss.length svc) (.slice eva es.length evc)) ⟨?_, ?_, ?_⟩ ?_
      · exact blk_set3 HK3.out.res _ _ _
      · exact ((HK3.out.bel.setCell (p := ⟨w.heap.size + 1, 0, none⟩) (Nat.le_succ _) _).setCell (p := ⟨w.heap.size + 1, 1, none⟩) (Nat.le_succ _) _).setCell (p := ⟨w.heap.size + 1, 2, none⟩) (Nat.le_succ _) _
      · have hr := HS3.out.rows
        have key : ∀ {e : TypeId} {s : Nat} {v : Value} {n : Nat} {xs : List Value}, w3.ownsRow (w.heap.size + 2 + 1) e s v n xs → World.ownsRow (((w3.setCell ⟨w.heap.size + 1, 0, none⟩ (.slice sva ss.length svc)).setCell ⟨w.heap.size + 1, 1, none⟩ (.slice eva es.length evc)).setCell ⟨w.heap.size + 1, 2, none⟩ (.int .i64 rt)) w.heap.size e s v n xs := fun ho =>
          ownsRow_base (ownsRow_setCell_below (ownsRow_setCell_below (ownsRow_setCell_below ho (by show w.heap.size + 1 < _; omega) _) (by show w.heap.size + 1 < _; omega) _) (by show w.heap.size + 1 < _; omega) _) (by omega)
        exact ⟨key hr.structs, key hr.enums, fun q hq => key (hr.fields q hq), fun q hq => key (hr.names q hq)⟩
      · rintro Wf ⟨e1, e2, e3⟩
        obtain ⟨_, d0, d1, d2, _⟩ := blk3 e1
        refine bodyPost_ret (v := .tuple #[.agg #[.slice sva ss.length svc, .slice eva es.length evc, .int .i64 rt], .bool true]) (by simp [results, Tryz.results7, go_sem, d0, d1, d2]) rfl ⟨e2, .inl ⟨HOK.out, ss, es, _, _, ?_, ?_, ?_, e3⟩⟩
        · rw [HRT.out]
        · rw [HP.out.s_len]; exact HSS.out
        · rw [HP.out.e_len]; exact HES.out
    · intro c3 w3 j hf hres hbel hj hbad
      have HNO : Hid (¬ planOk p) := Lib.hid (lens_bad (by rw [HP.out.s_len]; exact hj) hbad)
      have HRE := Lib.hid hres
      have HBE := Lib.hid hbel
      obtain ⟨u3, rfl⟩ := frc_lit hf
      clear hf hres hbel hj hbad
      simp only [Exit.inBlock, Exit.then]
      refine post_gen (fun Wf => Wf.heap[w.heap.size + 1]? = some (.cells #[.slice none 0 0, .slice none 0 0, .int .i64 0] 30 (0, 0)) ∧ Below w.heap.size w Wf) ⟨HRE.out, HBE.out⟩ ?_
      rintro Wf ⟨e1, e2⟩
      obtain ⟨_, d0, d1, d2, _⟩ := blk3 e1
      exact bodyPost_ret (v := .tuple #[.agg #[.slice none 0 0, .slice none 0 0, .int .i64 0], .bool false]) (by simp [results, Tryz.results7, go_sem, d0, d1, d2]) rfl (made_no HNO.out e2)
  · exact made_bad p w HP.out hg
end Go.Proofs.YtdlfndjgncdgfaaGreatDoor
namespace Go.Proofs.YtdlfndjgncdgfaaGreatDoor
open Go.ChangeShapes Go.WideShapes Go.ChangeAt Go.RowKit Go.Shelf

def PlanNums (p : Plan) : Prop := ∀ i, i < p.structs.length → ∀ k, k < (p.structs.getD i []).length → (((p.structs.getD i []).getD k noPF).dflt : Int) ≤ 18446744073709551615
theorem plan_nums {w : World} {p : Plan} {a0 a1 : Option Addr} {n0 e0 n1 c1 : Nat} (hp : IsPlan w p a0 n0 e0 a1 n1 c1) : PlanNums p := by
  intro i hi k hk
  obtain ⟨_, _, _, n, _, _, _, _, hn, _, _, hfl⟩ := hp.s_at i (by rw [← hp.s_len]; exact hi)
  obtain ⟨_, _, f, hf, _, _, _, _, _, _, _, _, _, _, _, h⟩ := hfl k (by rw [← hn]; exact hk)
  rw [hf]
  exact h
theorem name2_size (x : UInt8) (y : Int) : ((⟨#[x]⟩ : ByteArray) ++ strOfNums [y]).size = 2 := by
  rw [ByteArray.size_append, strOfNums_size]
  rfl
theorem label_size (n k : Nat) : (labelOf n k).size ≤ 7 := by
  unfold labelOf
  rw [ByteArray.size_append, strOfNums_size]
  have := heads_size (m := n % 10) (Nat.mod_lt _ (by decide))
  simp
  exact this
theorem sgn_max (m n : Int) (h1 : 0 < m) (h2 : m ≤ 2147483648) : sgn m n ≤ 18446744073709551615 := by
  unfold sgn
  have := Int.emod_lt_of_pos n (show 0 < 2 * m by omega)
  split <;> omega
theorem sgnOf_max (n s : Int) (h : n ≤ 18446744073709551615) : sgnOf n s ≤ 18446744073709551615 := by
  unfold sgnOf
  split
  · exact sgn_max _ _ (by decide) (by decide)
  · split
    · exact sgn_max _ _ (by decide) (by decide)
    · split
      · exact sgn_max _ _ (by decide) (by decide)
      · exact h
theorem numP_max (cnt kind n : Nat) (hn : (n : Int) ≤ 18446744073709551615) : (numP cnt kind n : Int) ≤ 18446744073709551615 := by
  unfold numP
  split
  · omega
  · split
    · have := Nat.mod_le n cnt
      omega
    · have hm : ((if kSize kind < 8 then n % 2 ^ (8 * (kSize kind).toNat) else n : Nat) : Int) ≤ 18446744073709551615 := by
        split
        · have := Nat.mod_le n (2 ^ (8 * (kSize kind).toNat))
          omega
        · exact hn
      simp only
      generalize (if kSize kind < 8 then n % 2 ^ (8 * (kSize kind).toNat) else n : Nat) = m at *
      split
      · have := sgnOf_max m (kSize kind) hm
        omega
      · exact hm
end Go.Proofs.YtdlfndjgncdgfaaGreatDoor
