/-
  The package lex's Tokens: all tokens of a text, or the first fault and its place. Conditions: those that each theorem names; the library's tables hold what the row lists.
  Plain facts on decimal numbers as texts: when a text is a number, which one it says, and whether that is one of so many bytes. No run of the program stands in this text. Conditions: those that each theorem names.
-/
import Derived.Test.YtmjmblbaojchcaaDoorPkC1
import Derived.Test.YtmjmblbaojchcaaDoorPkC2
import Derived.Test.YtmjmblbaojchcaaDoorPkC27
import Derived.Lib.ConvBytes
import Derived.Lib.AtoiErrMem
import Derived.Lib.ParseIntB
import Derived.Laws.BitsLemmas
import Derived.IntWalk
namespace Go.Proofs.YtmjmblbaojchcaaDoor
open Go.ChangeShapes Go.WideShapes Go.ChangeAt Go.RowKit Go.Shelf

theorem bytes_of_bytesWorld (w : World) (s : ByteArray) : Bytes (Lib.bytesWorld w 5 s) (some ⟨w.heap.size, 0, none⟩) (bts s) := by
  refine ⟨bts_bd s, fun _ => ⟨w.heap.size, 0, rfl, by rw [Lib.bytesWorld_size]; omega, fun i hi => ?_⟩⟩
  rw [bts_length] at hi
  rw [Nat.zero_add, Lib.bytesWorld_cell w _ s i hi]
  simp [bts, List.getD, hi]
theorem lexTokens_long (s sg : ByteArray) (w : World) (hs : s.size ≤ 9223372036854775807) (h : 8192 < s.size) :
    Calls Tryd.prog 19 #[.string s, .string sg] w fun e w' => e = .returned (.tuple #[.slice none 0 0, .agg #[.int .i64 16, .int .i64 8192]]) ∧ Below w.heap.size w w' := by
  go_enter Tryd.func19, Tryd.ntmps19
  go_wp2
  exact bodyPost_ret (v := .tuple #[.slice none 0 0, .agg #[.int .i64 16, .int .i64 8192]]) (by simp [results, Tryd.results19, go_sem]) rfl ⟨rfl, (Below.refl _ _).alloc (Nat.le_refl _) _⟩
/-- What is left to find. -/
def lexFrom (s sg : ByteArray) (j : Nat) (l : List Tok) : List Tok × Int × Nat := toksF okU (amg sg) (bts s) (2049 - l.length) j l
/-- What the call hands back. -/
def LexPost (base : Nat) (w : World) (r : List Tok × Int × Nat) (e : Ending) (w' : World) : Prop :=
  ∃ v, e = .returned (.tuple #[v, .agg #[.int .i64 r.2.1, .int .i64 (r.2.2 : Nat)]]) ∧ OwnT w' base v r.1 ∧ Below base w w'
/-- The block of the fault lies as it was laid. -/
def FltBlk (g : Nat) (W : World) : Prop := W.heap[g]? = some (.cells #[.int .i64 0, .int .i64 0] 46 (0, 0))
theorem FltBlk.facts {g : Nat} {W : World} (h : FltBlk g W) : W.cell? ⟨g, 0, none⟩ = some (.int .i64 0) ∧ W.cell? ⟨g, 1, none⟩ = some (.int .i64 0) ∧ W.frozen? ⟨g, 0, none⟩ = false ∧ W.frozen? ⟨g, 1, none⟩ = false := by
  refine ⟨?_, ?_, ?_, ?_⟩
  · rw [cell_of_row W g 0 _ _ (0, 0) h]; rfl
  · rw [cell_of_row W g 1 _ _ (0, 0) h]; rfl
  · simp [World.frozen?, show W.heap[g]? = _ from h]
  · simp [World.frozen?, show W.heap[g]? = _ from h]
theorem FltBlk.below {g B : Nat} {W W' : World} (h : FltBlk g W) (hb : Below B W W') (hg : g < B) : FltBlk g W' := (hb.block g hg).trans h
theorem FltBlk.put {g : Nat} {W : World} (h : FltBlk g W) (hg : g < W.heap.size) (x y : Value) (o : Obj) :
    ((((W.setCell ⟨g, 0, none⟩ x).setCell ⟨g, 1, none⟩ y).alloc o).cell? ⟨g, 0, none⟩ = some x) ∧ ((((W.setCell ⟨g, 0, none⟩ x).setCell ⟨g, 1, none⟩ y).alloc o).cell? ⟨g, 1, none⟩ = some y) := by
  obtain ⟨g0, g1, _, _⟩ := h.facts
  constructor
  · rw [World.cell?_alloc_lt _ _ _ (by simpa [World.setCell] using hg)]
    simp [g0, go_sem]
  · rw [World.cell?_alloc_lt _ _ _ (by simpa [World.setCell] using hg)]
    simp [g1, go_sem]
theorem lexPost_end {base B : Nat} {w w' : World} {r : List Tok × Int × Nat} {v : Value} {l : List Tok} (hr : r = (l, 0, 0)) (ho : OwnT w' B v l) (hB : base ≤ B) (hb : Below base w w') : LexPost base w r (.returned (.tuple #[v, .agg #[.int .i64 0, .int .i64 0]])) w' := by
  subst hr
  exact ⟨_, rfl, ho.base_le hB, hb⟩
theorem lexPost_fault {base : Nat} {w w' : World} {r : List Tok × Int × Nat} {code : Int} {j : Nat} (hr : r = ([], code, j)) (hb : Below base w w') : LexPost base w r (.returned (.tuple #[.slice none 0 0, .agg #[.int .i64 code, .int .i64 (j : Nat)]])) w' := by
  subst hr
  exact ⟨_, rfl, ownT_nil _ _, hb⟩
theorem below_bytesWorld {B : Nat} {w W : World} (h : Below B w W) (hB : B ≤ W.heap.size) (e : TypeId) (s : ByteArray) : Below B w (Lib.bytesWorld W e s) := h.trans ((Lib.bytesWorld_below W e s).mono hB)
/-- One round more. -/
theorem lexFrom_many {s sg : ByteArray} {j : Nat} {l : List Tok} (h : l.length = 2048) : lexFrom s sg j l = ([], 16, gap (bts s) j) := by
  unfold lexFrom
  rw [h]
  simp only [toksF]
  rw [if_pos h]
theorem lexFrom_step {s sg : ByteArray} {j : Nat} {l : List Tok} (h : l.length < 2048) : lexFrom s sg j l =
    match tok okU (amg sg) (bts s) (gap (bts s) j) with
    | none => ([], 10, gap (bts s) j)
    | some (t, e) => if t.kind = 0 then (l ++ [t], 0, 0) else lexFrom s sg e (l ++ [t]) := by
  unfold lexFrom
  rw [show 2049 - l.length = (2048 - l.length) + 1 from by omega]
  simp only [toksF]
  rw [if_neg (by omega)]
  simp only [List.length_append, List.length_singleton]
  rw [show 2049 - (l.length + 1) = 2048 - l.length from by omega]
  rfl
set_option maxHeartbeats 800000 in
set_option maxRecDepth 100000 in
theorem lexTokens_short (s sg : ByteArray) (w : World) (hT : Tabs w) (h : s.size ≤ 8192) :
    Calls Tryd.prog 19 #[.string s, .string sg] w (LexPost w.heap.size w (lexFrom s sg 0 [])) := by
  have kc := fun W => Lib.run_convert_string_bytes (P := Tryd.prog) W 9 22 5 s Tryd.underlying9 Tryd.underlying22 Tryd.underlying5
  have hd : decide ((8192 : Int) < (s.size : Int)) = false := by simp; omega
  go_enter Tryd.func19, Tryd.ntmps19
  go_wp2
  have hcap := grownCap_ge (w.alloc (.cells #[.int .i64 0, .int .i64 0] 46)) s.size 0 5
  have hb0 : Below w.heap.size w (Lib.bytesWorld (w.alloc (.cells #[.int .i64 0, .int .i64 0] 46)) 5 s) := below_bytesWorld ((Below.refl _ _).alloc (Nat.le_refl _) _) (by simp) _ _
  have hz0 := bytes_of_bytesWorld (w.alloc (.cells #[.int .i64 0, .int .i64 0] 46)) s
  have hf0 : FltBlk w.heap.size (Lib.bytesWorld (w.alloc (.cells #[.int .i64 0, .int .i64 0] 46)) 5 s) := by
    unfold FltBlk
    rw [Lib.bytesWorld_at_old _ _ _ _ (by simp)]
    exact heap_alloc_new w _
  have hsz : w.heap.size < (Lib.bytesWorld (w.alloc (.cells #[.int .i64 0, .int .i64 0] 46)) 5 s).heap.size := by rw [Lib.bytesWorld_size]; simp; omega
  simp only [World.size_alloc] at hz0
  generalize grownCap (w.alloc (.cells #[.int .i64 0, .int .i64 0] 46)) s.size 0 5 = cap at hcap ⊢
  generalize Lib.bytesWorld (w.alloc (.cells #[.int .i64 0, .int .i64 0] 46)) 5 s = W0 at hb0 hz0 hf0 hsz ⊢
  have HB0 := Lib.hid hb0
  have HF0 := Lib.hid hf0
  have HGAP := Lib.hid (fun j W (hb : Below W0.heap.size W0 W) hj => gap_any (some ⟨w.heap.size + 1, 0, none⟩) s.size cap j j (bts s) W rfl (hz0.below (Nat.le_refl _) hb) (bts_length s) hcap (by omega) hj)
  have HTOK := Lib.hid (fun j v W (hb : Below W0.heap.size W0 W) hj hk => token_any (some ⟨w.heap.size + 1, 0, none⟩) s.size cap j j v (amg sg) (bts s) W rfl (Tabs.below hT (Nat.le_refl _) (hb0.trans (hb.mono hb0.size))) (hz0.below (Nat.le_refl _) hb) (bts_length s) (by omega) hj hcap hk)
  clear hb0 hf0 hz0 kc hT hcap hd
  go_loopw [7, 8] (fun lv at' wr => Below W0.heap.size W0 wr ∧ ∃ (j : Nat) (l : List Tok), j ≤ s.size ∧ at' = .int .i64 j ∧ OwnT wr W0.heap.size lv l ∧ l.length ≤ 2048 ∧ lexFrom s sg 0 [] = lexFrom s sg j l) (fun lv _ _ => 2048 - lenOf lv)
  case atStart => exact ⟨Below.refl _ _, 0, [], Nat.zero_le _, rfl, ownT_nil _ _, by decide, rfl⟩
  case round =>
    obtain ⟨hb, j, l, hj, rfl, ho, hll, hr⟩ := hrel
    obtain ⟨a, c, rfl⟩ := ho.form
    have HB := Lib.hid hb
    have HJ := Lib.hid hr
    have HO := Lib.hid ho
    have hg1 := gap_le (bts s) j (by rw [bts_length]; exact hj)
    rw [bts_length] at hg1
    clear hb hr ho
    by_cases h2 : l.length = 2048
    · have HM := Lib.hid (lexFrom_many (s := s) (sg := sg) (j := j) h2)
      have HL := Lib.hid h2
      go_wp2_with fail
      refine (HGAP.out j _ HB.out hj).mono ?_
      rintro e W1 ⟨rfl, hb1⟩
      have HB1 := Lib.hid (HB.out.trans (hb1.mono HB.out.size))
      clear hb1
      obtain ⟨g0, g1, f0, f1⟩ := (HF0.out.below HB1.out hsz).facts
      have t2 : ((l.length : Int) == 2048) = true := by simp; omega
      clear h2
      go_wp2
      exact bodyPost_ret (v := .tuple #[.slice none 0 0, .agg #[.int .i64 16, .int .i64 (gap (bts s) j : Nat)]]) (by simp [results, Tryd.results19, go_sem, g0, g1]) rfl
        (lexPost_fault (HJ.out.trans HM.out) (((HB0.out.trans (HB1.out.mono HB0.out.size)).setCell (Nat.le_refl _) _).setCell (Nat.le_refl _) _))
    · have HM := Lib.hid (lexFrom_step (s := s) (sg := sg) (j := j) (l := l) (by omega))
      have t2 : ((l.length : Int) == 2048) = false := by simp; omega
      go_wp2_with fail
      refine (HGAP.out j _ HB.out hj).mono ?_
      rintro e W1 ⟨rfl, hb1⟩
      have HB1 := Lib.hid (HB.out.trans (hb1.mono HB.out.size))
      have HO1 := Lib.hid (HO.out.below hb1 (Nat.le_refl _))
      clear hb1
      generalize gap (bts s) j = k at hg1 HM ⊢
      go_wp2_with fail
      refine (among_any sg _).mono ?_
      rintro e W2 ⟨v2, rfl, hb2, hk2⟩
      have HK2 := Lib.hid hk2
      have HB2 := Lib.hid (HB1.out.trans (hb2.mono HB1.out.size))
      have HO2 := Lib.hid (HO1.out.below hb2 (Nat.le_refl _))
      clear hb2 hk2
      go_wp2_with fail
      refine (HTOK.out k v2 _ HB2.out hg1 HK2.out).mono ?_
      rintro e W3 ⟨rfl, hb3⟩
      have HB3 := Lib.hid (HB2.out.trans (hb3.mono HB2.out.size))
      have HO3 := Lib.hid (HO2.out.below hb3 (Nat.le_refl _))
      clear hb3
      generalize hq : tok okU (amg sg) (bts s) k = q at HM ⊢
      obtain _ | ⟨t, e2⟩ := q
      · clear hq
        obtain ⟨g0, g1, f0, f1⟩ := (HF0.out.below HB3.out hsz).facts
        have hs3 : w.heap.size < W3.heap.size := Nat.lt_of_lt_of_le hsz HB3.out.size
        simp only [tokVal]
        go_wp2
        obtain ⟨r0, r1⟩ := (HF0.out.below HB3.out hsz).put hs3 (.int .i64 10) (.int .i64 (k : Nat)) (.cells #[.int .i64 0, .string ByteArray.empty, .int .i64 0] 57)
        exact bodyPost_ret (v := .tuple #[.slice none 0 0, .agg #[.int .i64 10, .int .i64 (k : Nat)]]) (by simp [results, Tryd.results19, go_sem, r0, r1]) rfl
          (lexPost_fault (HJ.out.trans HM.out) (((((HB0.out.trans (HB3.out.mono HB0.out.size)).setCell (Nat.le_refl _) _).setCell (Nat.le_refl _) _)).alloc (by simpa [World.setCell] using Nat.le_of_lt hs3) _))
      · have HQ := Lib.hid hq
        have he2 := tok_le (by rw [bts_length]; exact hg1) hq
        rw [bts_length] at he2
        obtain ⟨i0, hi0, hz0, hz1, hz2⟩ := info_parts tok_info
        have I1 := Lib.hid hi0
        have I2 := Lib.hid hz0
        have I3 := Lib.hid hz1
        have I4 := Lib.hid hz2
        have hs3 : w.heap.size < W3.heap.size := Nat.lt_of_lt_of_le hsz HB3.out.size
        clear hq hi0 hz0 hz1 hz2
        simp only [tokVal]
        by_cases hkd : t.kind = 0
        · have tk : (t.kind == 0) = true := by simp [hkd]
          have HE := Lib.hid (HM.out.trans (if_pos hkd))
          clear hkd
          go_wp2_with (at_builtin; refine wpList_append_own _ rfl (.tmp 39) (.tmp 41) 41 rfl W0.heap.size 57 i0 _ 3 32 Tryd.underlying41 I1.out I2.out I3.out I4.out rfl (by decide) _ l.length (toksCells l) rfl (HO3.out.below (((Below.refl W3.heap.size W3).alloc (Nat.le_refl _) _).alloc (by simp) _) (Nat.le_refl _)) ⟨W3.heap.size + 1, 0, none⟩ 1 1 (tokCells t) rfl rfl (tokCells_new _ t _ (by simp)) (tokCells_one t) (by unfold maxLen; omega) (by omega) (by have := HB3.out.size; simp; omega) ?_; intro v4 W4 hown4 hg4 hx; clear hx; obtain ⟨kk, hb4⟩ := grown_new HO3.out HB3.out hg4; obtain ⟨g0, g1, f0, f1⟩ := (HF0.out.below hb4 hsz).facts; have HB4 := Lib.hid hb4; have HO4 := Lib.hid (OwnT.snoc hown4); clear hown4 hg4 hb4)
          exact bodyPost_ret (v := .tuple #[v4, .agg #[.int .i64 0, .int .i64 0]]) (by simp [results, Tryd.results19, go_sem, g0, g1]) rfl
            (lexPost_end (HJ.out.trans HE.out) ((HO4.out.setFar hsz _).setFar hsz _) HB0.out.size (((HB0.out.trans (HB4.out.mono HB0.out.size)).setCell (Nat.le_refl _) _).setCell (Nat.le_refl _) _))
        · have tk : (t.kind == 0) = false := by simp [hkd]
          have HE := Lib.hid (HM.out.trans (if_neg hkd))
          clear hkd
          go_wp2_with (at_builtin; refine wpList_append_own _ rfl (.tmp 39) (.tmp 41) 41 rfl W0.heap.size 57 i0 _ 3 32 Tryd.underlying41 I1.out I2.out I3.out I4.out rfl (by decide) _ l.length (toksCells l) rfl (HO3.out.below (((Below.refl W3.heap.size W3).alloc (Nat.le_refl _) _).alloc (by simp) _) (Nat.le_refl _)) ⟨W3.heap.size + 1, 0, none⟩ 1 1 (tokCells t) rfl rfl (tokCells_new _ t _ (by simp)) (tokCells_one t) (by unfold maxLen; omega) (by omega) (by have := HB3.out.size; simp; omega) ?_; intro v4 W4 hown4 hg4 hx; clear hx; obtain ⟨kk, hb4⟩ := grown_new HO3.out HB3.out hg4; obtain ⟨g0, g1, f0, f1⟩ := (HF0.out.below hb4 hsz).facts; have HB4 := Lib.hid hb4; have HO4 := Lib.hid (OwnT.snoc hown4); clear hown4 hg4 hb4)
          obtain ⟨a4, c4, rfl⟩ := HO4.out.form
          go_roundw
          case rel => exact ⟨HB4.out, e2, l ++ [t], he2, rfl, HO4.out, by simp; omega, HJ.out.trans HE.out⟩
          case measure => simp [lenOf]; omega
/-- The package lex's Tokens, whatever the text. -/
theorem lexTokens_any (s sg : ByteArray) (w : World) (hT : Tabs w) (hs : s.size ≤ 9223372036854775807) :
    Calls Tryd.prog 19 #[.string s, .string sg] w (LexPost w.heap.size w (toks okU (amg sg) (bts s))) := by
  unfold toks
  rw [bts_length]
  by_cases h : 8192 < s.size
  · rw [if_pos h]
    exact (lexTokens_long s sg w hs h).mono fun e w' ⟨he, hb⟩ => by rw [he]; exact lexPost_fault rfl hb
  · rw [if_neg h]
    exact lexTokens_short s sg w hT (by omega)
end Go.Proofs.YtmjmblbaojchcaaDoor
namespace Go.Proofs.YtmjmblbaojchcaaDoor
open Go.RowKit

/-- What digits say, behind those that said acc. -/
def dstep (a : Nat) (c : Int) : Nat := a * 10 + (c.toNat - 48)
def decF (acc : Nat) (ds : List Int) : Nat := ds.foldl dstep acc
/-- The greatest number of 64 bits. -/
def maxU : Nat := 18446744073709551615
theorem decF_nil (acc : Nat) : decF acc [] = acc := rfl
theorem decF_cons (acc : Nat) (c : Int) (r : List Int) : decF acc (c :: r) = decF (dstep acc c) r := List.foldl_cons ..
theorem decF_ge (ds : List Int) : ∀ acc : Nat, acc ≤ decF acc ds := by
  induction ds with
  | nil => intro acc; rw [decF_nil]; exact Nat.le_refl acc
  | cons c r ih =>
    intro acc
    rw [decF_cons]
    have := ih (dstep acc c)
    have h2 : acc ≤ dstep acc c := by unfold dstep; omega
    omega
theorem decF_append (ds es : List Int) : ∀ acc : Nat, decF acc (ds ++ es) = decF (decF acc ds) es := by
  induction ds with
  | nil => intro acc; rfl
  | cons c r ih =>
    intro acc
    rw [List.cons_append, decF_cons, decF_cons]
    exact ih _
/-- The library's own parse at digits. -/
theorem parseUintM_dec (M : Nat) (hM : M = maxU) (l : List UInt8) : ∀ acc : Nat, (∀ b ∈ l, 48 ≤ b.toNat ∧ b.toNat ≤ 57) → acc ≤ maxU →
    Lib.parseUintM M acc l = if decF acc (l.map fun b => (b.toNat : Int)) ≤ maxU then .ok (decF acc (l.map fun b => (b.toNat : Int))) else .range := by
  induction l with
  | nil =>
    intro acc _ ha
    rw [List.map_nil, decF_nil, if_pos ha]
    rfl
  | cons b r ih =>
    intro acc hd ha
    have hb := hd b List.mem_cons_self
    rw [List.map_cons, decF_cons, show dstep acc (b.toNat : Int) = acc * 10 + (b.toNat - 48) from by unfold dstep; rw [Int.toNat_natCast]]
    have hge := decF_ge (r.map fun b => (b.toNat : Int)) (acc * 10 + (b.toNat - 48))
    simp only [Lib.parseUintM]
    rw [if_pos hb]
    by_cases h1 : 1844674407370955162 ≤ acc
    · rw [if_pos h1, if_neg (by unfold maxU; omega)]
    · rw [if_neg h1]
      by_cases h2 : M < acc * 10 + (b.toNat - 48)
      · rw [if_pos h2, if_neg (by omega)]
      · rw [if_neg h2]
        exact ih _ (fun x hx => hd x (List.mem_cons_of_mem _ hx)) (by omega)
theorem maxU_eq : 2 ^ 64 - 1 = maxU := by decide
theorem parseUintB_dec (l : List UInt8) (hne : l ≠ []) (hd : ∀ b ∈ l, 48 ≤ b.toNat ∧ b.toNat ≤ 57) :
    Lib.parseUintB 64 l = if decF 0 (l.map fun b => (b.toNat : Int)) ≤ maxU then .ok (decF 0 (l.map fun b => (b.toNat : Int))) else .range := by
  unfold Lib.parseUintB
  rw [if_neg hne]
  exact parseUintM_dec _ maxU_eq l 0 hd (Nat.zero_le _)

/-- Is a text a number's? -/
def goodN (zs : List Int) : Bool := !numBad zs 0 && decide (numEnd zs 0 = zs.length)
/-- Its digits. -/
def digs (zs : List Int) : List Int := if stA zs (isC 45) 0 = true then zs.drop 1 else zs
theorem digs_drop (zs : List Int) : digs zs = zs.drop (minusTo zs 0) := by
  unfold digs minusTo
  split <;> simp
theorem good_digs {zs : List Int} (h : goodN zs = true) : digs zs ≠ [] ∧ ∀ c ∈ digs zs, 48 ≤ c ∧ c ≤ 57 := by
  unfold goodN at h
  rw [Bool.and_eq_true, Bool.not_eq_true', decide_eq_true_iff] at h
  obtain ⟨h1, h2⟩ := h
  have h0 : decide (runTo zs isDig (minusTo zs 0) - minusTo zs 0 = 0) = false := by
    unfold numBad at h1
    rw [Bool.or_eq_false_iff, Bool.or_eq_false_iff, Bool.or_eq_false_iff] at h1
    exact h1.1.1.1
  have h0' := of_decide_eq_false h0
  unfold numEnd at h2
  rw [digs_drop]
  constructor
  · intro he
    have := congrArg List.length he
    rw [List.length_drop, List.length_nil] at this
    omega
  · intro c hc
    obtain ⟨j, hj, rfl⟩ := List.mem_iff_getElem.1 hc
    rw [List.length_drop] at hj
    have := runTo_all zs isDig (minusTo zs 0) (minusTo zs 0 + j) (by omega) (by omega)
    have hp := of_decide_eq_true (show decide (48 ≤ zs.getD (minusTo zs 0 + j) 0 ∧ zs.getD (minusTo zs 0 + j) 0 ≤ 57) = true from stA_p this)
    have he : zs.getD (minusTo zs 0 + j) 0 = (zs.drop (minusTo zs 0))[j]'(by rw [List.length_drop]; omega) := by
      rw [List.getElem_drop]
      simp [List.getD, show minusTo zs 0 + j < zs.length by omega]
    rw [he] at hp
    exact hp
theorem minusTo_cases (zs : List Int) : (stA zs (isC 45) 0 = true ∧ minusTo zs 0 = 1 ∧ 1 ≤ zs.length ∧ zs.getD 0 0 = 45) ∨ (stA zs (isC 45) 0 = false ∧ minusTo zs 0 = 0) := by
  unfold minusTo
  cases h : stA zs (isC 45) 0
  · exact .inr ⟨rfl, by simp⟩
  · refine .inl ⟨rfl, by simp, stA_lt h, ?_⟩
    exact of_decide_eq_true (show decide (zs.getD 0 0 = 45) = true from stA_p h)
theorem digs_length (zs : List Int) : (digs zs).length = zs.length - minusTo zs 0 := by rw [digs_drop, List.length_drop]
theorem digs_get (zs : List Int) (j : Nat) : (digs zs).getD j 0 = zs.getD (minusTo zs 0 + j) 0 := by
  rw [digs_drop]
  simp [List.getD]
/-- A text is a number's just if its digits are so many, without a 0 ahead. -/
theorem goodN_iff (zs : List Int) : goodN zs = true ↔ (1 ≤ (digs zs).length ∧ (digs zs).length ≤ 20 ∧ ¬ (1 < (digs zs).length ∧ (digs zs).getD 0 0 = 48) ∧ zs ≠ [45, 48] ∧ ∀ j, j < (digs zs).length → isDig ((digs zs).getD j 0) = true) := by
  rw [digs_length]
  have hm := minusTo_cases zs
  unfold goodN numEnd
  rw [Bool.and_eq_true, Bool.not_eq_true', decide_eq_true_iff]
  constructor
  · rintro ⟨h1, h2⟩
    unfold numBad at h1
    rw [Bool.or_eq_false_iff, Bool.or_eq_false_iff, Bool.or_eq_false_iff, h2, decide_eq_false_iff_not, decide_eq_false_iff_not] at h1
    obtain ⟨⟨⟨a1, a2⟩, _⟩, a4⟩ := h1
    have hz : ∀ (_ : 1 ≤ zs.length - minusTo zs 0) (_ : zs.getD (minusTo zs 0) 0 = 48), stA zs (isC 48) (minusTo zs 0) = true := fun hl he => by
      rw [stA_of (by omega)]
      exact decide_eq_true he
    unfold zeroAhead at a4
    rw [h2] at a4
    refine ⟨by omega, by omega, ?_, ?_, ?_⟩
    · rintro ⟨b1, b2⟩
      rw [digs_get, Nat.add_zero] at b2
      rw [hz (by omega) b2, decide_eq_true b1, Bool.or_true] at a4
      cases a4
    · rintro rfl
      exact absurd a4 (by decide)
    · intro j hj
      rw [digs_get]
      exact stA_p (runTo_all zs isDig (minusTo zs 0) (minusTo zs 0 + j) (by omega) (by omega))
  · rintro ⟨b1, b2, b3, b4, b5⟩
    have hE : runTo zs isDig (minusTo zs 0) = zs.length := by
      refine runTo_unique (by omega) (fun j h1 h2 => ?_) (stA_ge (Nat.le_refl _))
      rw [stA_of h2]
      have := b5 (j - minusTo zs 0) (by omega)
      rw [digs_get, show minusTo zs 0 + (j - minusTo zs 0) = j by omega] at this
      exact this
    refine ⟨?_, hE⟩
    unfold numBad zeroAhead
    rw [hE, decide_eq_false (by omega), decide_eq_false (by omega), stA_ge (Nat.le_refl _)]
    simp only [Bool.false_or]
    cases h48 : stA zs (isC 48) (minusTo zs 0)
    · rfl
    · have h48' : zs.getD (minusTo zs 0) 0 = 48 := of_decide_eq_true (show decide (zs.getD (minusTo zs 0) 0 = 48) = true from stA_p h48)
      have c1 : ¬ 1 < zs.length - minusTo zs 0 := fun h => b3 ⟨h, by rw [digs_get, Nat.add_zero]; exact h48'⟩
      rw [decide_eq_false c1, Bool.or_false, Bool.true_and]
      rcases hm with ⟨m1, m2, m3, m4⟩ | ⟨m1, m2⟩
      · exfalso
        apply b4
        rw [m2] at h48' b1 c1
        match zs, b1, c1, m4, h48' with
        | [a, b], _, _, m4, h48' =>
          simp at m4 h48'
          rw [m4, h48']
        | a :: b :: c :: r, _, c1, _, _ => simp at c1
        | [_], b1, _, _, _ => simp at b1
        | [], b1, _, _, _ => simp at b1
      · exact m1
def sizedB (size : Int) : Bool := decide (size = 1 ∨ size = 2 ∨ size = 4 ∨ size = 8)
/-- How many numbers there are of so many bytes. -/
def span (size : Int) : Int := if size = 1 then 256 else if size = 2 then 65536 else if size = 4 then 4294967296 else 18446744073709551616
/-- Is a number, or its opposite, one of so many bytes? -/
def fitsB (v : Int) (below : Bool) (size : Int) (sign : Bool) : Bool :=
  if sign = true then decide (v < span size / 2) || (below && decide (v = span size / 2)) else !below && decide (v < span size)
/-- The number that a text says, in 64 bits. -/
def numV (zs : List Int) (size : Int) (sign : Bool) : Option Nat :=
  if goodN zs = true ∧ sizedB size = true ∧ decF 0 (digs zs) ≤ maxU ∧ fitsB (decF 0 (digs zs)) (stA zs (isC 45) 0) size sign = true then
    some (if stA zs (isC 45) 0 = true then (18446744073709551616 - decF 0 (digs zs)) % 18446744073709551616 else decF 0 (digs zs))
  else none
theorem xor_max (n : Nat) (h : (n : Int) ≤ 18446744073709551615) : IntKind.u64.wrap (bits BinOp.xor .u64 IntKind.u64.max n + 1) = (((18446744073709551616 - n) % 18446744073709551616 : Nat) : Int) := by
  have e : bits BinOp.xor .u64 IntKind.u64.max n = 18446744073709551615 - n := by
    show IntKind.u64.wrap (((BitVec.ofInt 64 IntKind.u64.max) ^^^ BitVec.ofInt 64 (n : Int)).toNat : Int) = _
    rw [show BitVec.ofInt 64 IntKind.u64.max = BitVec.allOnes 64 from by decide, BitVec.allOnes_xor, BitVec.toNat_not, BitVec.ofInt_natCast, BitVec.toNat_ofNat, Nat.mod_eq_of_lt (by omega), IntKind.wrap_u64]
    omega
  rw [e, IntKind.wrap_u64]
  omega
end Go.Proofs.YtmjmblbaojchcaaDoor
