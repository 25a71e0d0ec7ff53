/-
  A world in which the seven variables that the rows list lie as the program's text lays them; and what the walks ask of them, out of that condition. No conditions.
-/
import Derived.Test.YtleclhnlojalbaaGreatDoorPkL1
import Derived.Test.YtleclhnlojalbaaGreatDoorPkL3
import Derived.Test.YtleclhnlojalbaaGreatDoorPkL5
import Derived.Test.YtleclhnlojalbaaGreatDoorPkL8
import Derived.Test.YtleclhnlojalbaaGreatDoorPkL15
import Derived.Lib.LaidTab
import Derived.Stop.LaidErr
namespace Go.Proofs.YtleclhnlojalbaaGreatDoor
open Go.ChangeShapes Go.WideShapes Go.ChangeAt Go.RowKit Go.Shelf

theorem blank_no {s : ByteArray} {k : Nat} (h : k < s.size) (hb : stA (bts s) isBlank k = false) : ((s[k].toNat : Int) == 32) = false ∧ ((s[k].toNat : Int) == 9) = false ∧ ((s[k].toNat : Int) == 10) = false ∧ ((s[k].toNat : Int) == 13) = false := by
  rw [stA_of (by rw [bts_length]; exact h), bts_get h] at hb
  have hc := of_decide_eq_false hb
  simp only [beq_eq_false_iff_ne, ne_eq]
  omega
theorem slash_no {s : ByteArray} {k : Nat} (h : k < s.size) (hc : (s[k].toNat : Int) = 47) (h2 : slash2 (bts s) k = false) : ((bts s).getD (k + 1) 0 == 47) = false := by
  unfold slash2 at h2
  rw [stA_of (by rw [bts_length]; exact h), bts_get h, hc, show isC 47 47 = true from rfl, Bool.true_and] at h2
  by_cases h3 : k + 1 < s.size
  · rw [stA_of (by rw [bts_length]; exact h3)] at h2
    exact h2
  · rw [bts_end (by omega)]
    rfl
theorem slash_yes {s : ByteArray} {k : Nat} (h : k < s.size) (h2 : slash2 (bts s) k = true) : ((s[k].toNat : Int) == 47) = true ∧ ((bts s).getD (k + 1) 0 == 47) = true := by
  unfold slash2 at h2
  rw [Bool.and_eq_true] at h2
  rw [← bts_get h]
  exact ⟨stA_p h2.1, stA_p h2.2⟩
set_option maxRecDepth 100000 in
set_option maxHeartbeats 800000 in
theorem behind_any (s : ByteArray) (x : Int) (i : Nat) (w : World) (hx : x = i) (hs : s.size ≤ 281474976710656) (hi : i ≤ s.size) :
    Calls Tryz.prog 79 #[.string s, .int .i64 x] w fun e w' => e = .returned (.int .i64 (gap (bts s) i : Nat)) ∧ w = w' := by
  subst hx
  obtain ⟨r, hr⟩ : ∃ r, gap (bts s) i = r := ⟨_, rfl⟩
  have HR := Lib.hid hr
  rw [hr]
  clear hr
  go_enter Tryz.func79, Tryz.ntmps79
  go_wp2
  go_loop [1] (fun j => ∃ k : Nat, k ≤ s.size ∧ j = .int .i64 k ∧ r = gap (bts s) k) (fun j => s.size - (intOf j).toNat)
  case atStart => exact ⟨i, hi, rfl, HR.out.symm⟩
  case round =>
    obtain ⟨k, hk, rfl, hj⟩ := hrel
    have HJ := Lib.hid hj
    clear hj
    by_cases hlt : k < s.size
    · have hgk := bts_get hlt
      cases hb : stA (bts s) isBlank k
      · cases h2 : slash2 (bts s) k
        · have HG := Lib.hid (gap_stop hb h2)
          obtain ⟨t32, t9, t10, t13⟩ := blank_no hlt hb
          by_cases c47 : (s[k].toNat : Int) = 47
          · have hd := slash_no hlt c47 h2
            have t47 : ((s[k].toNat : Int) == 47) = true := beq_iff_eq.2 c47
            clear hb h2 c47 hgk
            go_wp2_with fail
            refine (at_any s _ (k + 1) _ (by omega)).mono ?_
            rintro e w2 ⟨rfl, rfl⟩
            generalize (bts s).getD (k + 1) 0 = z at hd ⊢
            go_wp2
            go_ret
            exact ⟨ret_int (by rw [HJ.out, HG.out]), rfl⟩
          · have t47 : ((s[k].toNat : Int) == 47) = false := beq_eq_false_iff_ne.2 c47
            clear hb h2 c47 hgk
            go_wp2
            go_ret
            exact ⟨ret_int (by rw [HJ.out, HG.out]), rfl⟩
        · have HG := Lib.hid (gap_remark h2)
          obtain ⟨t32, t9, t10, t13⟩ := blank_no hlt hb
          obtain ⟨t47, hd⟩ := slash_yes hlt h2
          have hrl := runTo_le (bts s) notLf k (by rw [bts_length]; exact hk)
          have hrg := slash2_run h2
          rw [bts_length] at hrl
          clear hb h2 hgk
          go_wp2_with fail
          refine (at_any s _ (k + 1) _ (by omega)).mono ?_
          rintro e w2 ⟨rfl, rfl⟩
          generalize (bts s).getD (k + 1) 0 = z at hd ⊢
          go_wp2
          go_loop [1] (fun j => ∃ m : Nat, k ≤ m ∧ m ≤ s.size ∧ j = .int .i64 m ∧ runTo (bts s) notLf k = runTo (bts s) notLf m) (fun j => s.size - (intOf j).toNat)
          case atStart => exact ⟨k, Nat.le_refl _, hk, rfl, rfl⟩
          case round =>
            obtain ⟨m, hkm, hm, rfl, hq⟩ := hrel
            have HQ := Lib.hid hq
            clear hq
            by_cases hml : m < s.size
            · have hgm := bts_get hml
              by_cases c10 : (s[m].toNat : Int) = 10
              · have HS := Lib.hid (runTo_stop (zs := bts s) (p := notLf) (i := m) (by rw [stA_of (by rw [bts_length]; exact hml), hgm, c10]; rfl))
                have tm : ((s[m].toNat : Int) != 10) = false := by rw [c10]; rfl
                have hkm2 : k + 2 ≤ m := by have h1 := HQ.out; rw [HS.out] at h1; omega
                clear c10 hgm
                go_wp2
                go_round
                case rel => exact ⟨m, hm, rfl, by rw [HJ.out, HG.out, HQ.out, HS.out]⟩
                case measure => simp [intOf]; omega
              · have HS := Lib.hid (runTo_step (zs := bts s) (p := notLf) (i := m) (by rw [stA_of (by rw [bts_length]; exact hml), hgm]; exact decide_eq_true c10))
                have tm : ((s[m].toNat : Int) != 10) = true := by rw [bne_iff_ne]; exact c10
                clear c10 hgm
                go_wp2
                go_round
                case rel => exact ⟨m + 1, by omega, by omega, by go_num, by rw [HQ.out, HS.out]⟩
                case measure => simp [intOf]; omega
            · have HS := Lib.hid (runTo_stop (zs := bts s) (p := notLf) (i := m) (stA_ge (by rw [bts_length]; omega)))
              have hkm2 : k + 2 ≤ m := by have h1 := HQ.out; rw [HS.out] at h1; omega
              go_wp2
              go_round
              case rel => exact ⟨m, hm, rfl, by rw [HJ.out, HG.out, HQ.out, HS.out]⟩
              case measure => simp [intOf]; omega
      · have HG := Lib.hid (gap_blank hb)
        have hc : (s[k].toNat : Int) = 32 ∨ (s[k].toNat : Int) = 9 ∨ (s[k].toNat : Int) = 10 ∨ (s[k].toNat : Int) = 13 := by
          rw [← hgk]
          exact of_decide_eq_true (stA_p hb)
        clear hb hgk
        rcases hc with hc | hc | hc | hc
        · have t32 : ((s[k].toNat : Int) == 32) = true := by simp only [beq_iff_eq]; omega
          clear hc
          go_wp2
          go_round
          case rel => exact ⟨k + 1, by omega, by go_num, HJ.out.trans HG.out⟩
          case measure => simp [intOf]; omega
        · have t32 : ((s[k].toNat : Int) == 32) = false := by simp only [beq_eq_false_iff_ne, ne_eq]; omega
          have t9 : ((s[k].toNat : Int) == 9) = true := by simp only [beq_iff_eq]; omega
          clear hc
          go_wp2
          go_round
          case rel => exact ⟨k + 1, by omega, by go_num, HJ.out.trans HG.out⟩
          case measure => simp [intOf]; omega
        · have t32 : ((s[k].toNat : Int) == 32) = false := by simp only [beq_eq_false_iff_ne, ne_eq]; omega
          have t9 : ((s[k].toNat : Int) == 9) = false := by simp only [beq_eq_false_iff_ne, ne_eq]; omega
          have t10 : ((s[k].toNat : Int) == 10) = true := by simp only [beq_iff_eq]; omega
          clear hc
          go_wp2
          go_round
          case rel => exact ⟨k + 1, by omega, by go_num, HJ.out.trans HG.out⟩
          case measure => simp [intOf]; omega
        · have t32 : ((s[k].toNat : Int) == 32) = false := by simp only [beq_eq_false_iff_ne, ne_eq]; omega
          have t9 : ((s[k].toNat : Int) == 9) = false := by simp only [beq_eq_false_iff_ne, ne_eq]; omega
          have t10 : ((s[k].toNat : Int) == 10) = false := by simp only [beq_eq_false_iff_ne, ne_eq]; omega
          have t13 : ((s[k].toNat : Int) == 13) = true := by simp only [beq_iff_eq]; omega
          clear hc
          go_wp2
          go_round
          case rel => exact ⟨k + 1, by omega, by go_num, HJ.out.trans HG.out⟩
          case measure => simp [intOf]; omega
    · have HG := Lib.hid (gap_end (zs := bts s) (i := k) (by rw [bts_length]; omega))
      go_wp2
      go_ret
      exact ⟨ret_int (by rw [HJ.out, HG.out]), rfl⟩
end Go.Proofs.YtleclhnlojalbaaGreatDoor
namespace Go.Proofs.YtleclhnlojalbaaGreatDoor
open Go.RowKit

def AllB (r : List Tok) : Prop := ∀ t ∈ r, t.text.length ≤ 281474976710656
theorem AllB.tail {r : List Tok} (h : AllB r) : AllB r.tail := fun t ht => h t (List.mem_of_mem_tail ht)
theorem AllB.hd {r : List Tok} (h : AllB r) : (hd r).text.length ≤ 281474976710656 := by
  cases r with
  | nil => exact Nat.zero_le _
  | cons t q => exact h t List.mem_cons_self
def Gv {α : Type} (P : α → Prop) : Res α → Prop
  | .ok a r => P a ∧ AllB r
  | .no _ _ => True
theorem gv_bind {α β : Type} {P : α → Prop} {Q : β → Prop} {x : Res α} {f : α → List Tok → Res β} (h : Gv P x) (hf : ∀ a r, P a → AllB r → Gv Q (f a r)) : Gv Q (x.bind f) := by
  cases x with
  | no c p => trivial
  | ok a r => exact hf a r h.1 h.2
theorem gv_bad {α : Type} {P : α → Prop} (c : Int) (r : List Tok) : Gv P (bad c r : Res α) := trivial
def Short (t : Tok) : Prop := t.text.length ≤ 40
theorem gv_want {s : List Int} {r : List Tok} (h : AllB r) : Gv (fun _ => True) (wantR s r) := by
  unfold wantR
  split
  · exact ⟨trivial, h.tail⟩
  · exact gv_bad _ _
theorem gv_sized {r : List Tok} (h : AllB r) : Gv Short (sizedR r) := by
  unfold sizedR
  split
  · exact gv_bad _ _
  · rename_i hn
    exact ⟨Nat.le_of_not_lt fun hc => hn (.inr hc), h.tail⟩
theorem gv_name {r : List Tok} (h : AllB r) : Gv Short (nameR r) := by
  unfold nameR
  split
  · exact gv_sized h
  · exact gv_bad _ _
theorem gv_label {r : List Tok} (h : AllB r) : Gv Short (labelR r) := by
  unfold labelR
  split
  · exact gv_sized h
  · exact gv_bad _ _
theorem gv_value {r : List Tok} (h : AllB r) : Gv (fun t : Tok => t.text.length ≤ 281474976710656) (valueR r) := by
  unfold valueR
  split
  · exact ⟨h.hd, h.tail⟩
  · exact gv_bad _ _
theorem gv_lists : ∀ (f n : Nat) {r : List Tok}, AllB r → Gv (fun _ => True) (listsR f n r)
  | 0, n, r, h => by
    unfold listsR
    split
    · exact gv_bad _ _
    · exact ⟨trivial, h⟩
  | f + 1, n, r, h => by
    unfold listsR
    split
    · exact gv_bind (gv_want h.tail) fun _ r' _ h' => gv_lists f (n + 1) h'
    · exact ⟨trivial, h⟩
theorem gv_close : ∀ (n : Nat) {r : List Tok}, AllB r → Gv (fun _ => True) (closeR n r)
  | 0, _, h => ⟨trivial, h⟩
  | n + 1, _, h => gv_bind (gv_want h) fun _ _ _ h' => gv_close n h'
theorem gv_ty {r : List Tok} (h : AllB r) : Gv (fun y : RTy => y.name.length ≤ 40) (tyR r) :=
  gv_bind (gv_lists 3 0 h) fun n _ _ h1 => gv_bind (gv_name h1) fun _ _ ht h2 => gv_bind (gv_close n h2) fun _ _ _ h3 => ⟨ht, h3⟩
theorem gv_dflt {r : List Tok} (h : AllB r) : Gv (fun t : Tok => t.text.length ≤ 281474976710656) (dfltR r) := by
  unfold dfltR
  split
  · exact gv_value h.tail
  · exact ⟨Nat.zero_le _, h⟩
def FldOk (f : RField) : Prop := f.name.length ≤ 40 ∧ f.ty.name.length ≤ 40 ∧ f.dflt.text.length ≤ 281474976710656
theorem gv_field {r : List Tok} (h : AllB r) : Gv FldOk (fieldR r) :=
  gv_bind (gv_label h) fun _ _ ht h1 => gv_bind (gv_want h1) fun _ _ _ h2 => gv_bind (gv_ty h2) fun _ _ hy h3 => gv_bind (gv_dflt h3) fun _ _ hd h4 => gv_bind (gv_want h4) fun _ _ _ h5 => ⟨⟨ht, hy, hd⟩, h5⟩
theorem snoc_all {α : Type} {P : α → Prop} {l : List α} {x : α} (h : ∀ y ∈ l, P y) (hx : P x) : ∀ y ∈ l ++ [x], P y := by
  intro y hy
  rcases List.mem_append.1 hy with hy | hy
  · exact h y hy
  · rw [List.mem_singleton.1 hy]
    exact hx
theorem gv_fields : ∀ (f : Nat) {acc : List RField} {r : List Tok}, (∀ x ∈ acc, FldOk x) → AllB r → Gv (fun l : List RField => ∀ x ∈ l, FldOk x) (fieldsR f acc r)
  | 0, acc, r, ha, h => gv_bad _ _
  | f + 1, acc, r, ha, h => by
    unfold fieldsR
    split
    · exact ⟨ha, h.tail⟩
    · exact gv_bind (gv_field h) fun x r' hx h' => gv_fields f (snoc_all ha hx) h'
def RecOk (s : RRec) : Prop := s.name.length ≤ 40 ∧ ∀ f ∈ s.fields, FldOk f
theorem gv_rec {r : List Tok} (h : AllB r) : Gv RecOk (recR r) :=
  gv_bind (gv_name h) fun t r1 ht h1 => gv_bind (gv_want h1) fun _ r2 _ h2 => gv_bind (gv_fields r2.length (fun _ hx => by cases hx) h2) fun fs r3 hf h3 => ⟨⟨ht, hf⟩, h3⟩
theorem gv_comma {r : List Tok} (h : AllB r) : Gv (fun _ => True) (commaR r) := by
  unfold commaR
  split
  · exact ⟨trivial, h⟩
  · exact gv_want h
theorem gv_names : ∀ (f : Nat) {acc : List Tok} {r : List Tok}, (∀ x ∈ acc, Short x) → AllB r → Gv (fun l : List Tok => ∀ x ∈ l, Short x) (namesR f acc r)
  | 0, acc, r, ha, h => gv_bad _ _
  | f + 1, acc, r, ha, h => by
    unfold namesR
    split
    · exact ⟨ha, h.tail⟩
    · exact gv_bind (gv_name h) fun t r1 ht h1 => gv_bind (gv_comma h1) fun _ r2 _ h2 => gv_names f (snoc_all ha ht) h2
def ChoOk (s : RCho) : Prop := s.name.length ≤ 40 ∧ ∀ t ∈ s.names, Short t
theorem gv_cho {r : List Tok} (h : AllB r) : Gv ChoOk (choR r) :=
  gv_bind (gv_name h) fun t r1 ht h1 => gv_bind (gv_want h1) fun _ r2 _ h2 => gv_bind (gv_names r2.length (fun _ hx => by cases hx) h2) fun fs r3 hf h3 => ⟨⟨ht, hf⟩, h3⟩
structure RawFit (x : RRaw) : Prop where
  st : ∀ s ∈ x.structs, RecOk s
  en : ∀ e ∈ x.enums, ChoOk e
  rt : ∀ t ∈ x.roots, Short t
theorem gv_part {a : RRaw} {r : List Tok} (ha : RawFit a) (h : AllB r) : Gv RawFit (partR a r) := by
  unfold partR
  split
  · exact gv_bind (gv_rec h.tail) fun s r' hs h' => ⟨⟨snoc_all ha.st hs, ha.en, ha.rt⟩, h'⟩
  · split
    · exact gv_bind (gv_cho h.tail) fun s r' hs h' => ⟨⟨ha.st, snoc_all ha.en hs, ha.rt⟩, h'⟩
    · split
      · exact gv_bind (gv_name h.tail) fun t r1 ht h1 => gv_bind (gv_want h1) fun _ r' _ h' => ⟨⟨ha.st, ha.en, snoc_all ha.rt ht⟩, h'⟩
      · exact gv_bad _ _
theorem gv_schema : ∀ (f : Nat) {a : RRaw} {r : List Tok}, RawFit a → AllB r → Gv RawFit (schemaR f a r)
  | 0, a, r, ha, h => gv_bad _ _
  | f + 1, a, r, ha, h => by
    unfold schemaR
    split
    · exact ⟨ha, h⟩
    · exact gv_bind (gv_part ha h) fun a' r' ha' h' => gv_schema f ha' h'
theorem rawR_fit {l : List Tok} (h : AllB l) : Gv RawFit (rawR l) :=
  gv_schema l.length ⟨(fun _ hx => by cases hx), (fun _ hx => by cases hx), (fun _ hx => by cases hx)⟩ h
theorem RawFit.ok {x : RRaw} (h : RawFit x) : RawOk x where
  en := fun e he => ⟨Nat.le_trans (h.en e he).1 (by decide), fun t ht => Nat.le_trans ((h.en e he).2 t ht) (by decide)⟩
  st := fun s hs => ⟨Nat.le_trans (h.st s hs).1 (by decide), fun f hf => ⟨((h.st s hs).2 f hf).2.2, Nat.le_trans ((h.st s hs).2 f hf).1 (by decide)⟩⟩
end Go.Proofs.YtleclhnlojalbaaGreatDoor
namespace Go.Proofs.YtleclhnlojalbaaGreatDoor
open Go.ChangeShapes Go.WideShapes Go.ChangeAt Go.RowKit

def numCells : DataW Unit → Array Value
  | .agg parts => (parts.filterMap fun | .lit (.int k n) => some (Value.int k n) | _ => none).toArray
  | _ => #[]
def withCells (cs : Array Value) : Obj → Obj
  | .cells _ t frozen => .cells cs t frozen
  | o => o
noncomputable def lowBlock : Nat := (World.holding Tryz.prog default ⟨#[], #[], []⟩).heap.size
noncomputable def laidWorld (os : Os) : World :=
  { World.holding Tryz.prog os ⟨#[.cells #[.string ⟨#[118, 97, 108, 117, 101, 32, 111, 117, 116, 32, 111, 102, 32, 114, 97, 110, 103, 101]⟩] 241, .cells #[.string ⟨#[105, 110, 118, 97, 108, 105, 100, 32, 115, 121, 110, 116, 97, 120]⟩] 241], #[], []⟩ with
    heap := (((((((World.holding Tryz.prog os ⟨#[.cells #[.string ⟨#[118, 97, 108, 117, 101, 32, 111, 117, 116, 32, 111, 102, 32, 114, 97, 110, 103, 101]⟩] 241, .cells #[.string ⟨#[105, 110, 118, 97, 108, 105, 100, 32, 115, 121, 110, 116, 97, 120]⟩] 241], #[], []⟩).heap.modify 1 (withCells (Lib.firstTab.map (Value.int .u8)).toArray)).modify 2 (withCells ((List.range 32).map fun i => Value.int .u8 (if i % 2 = 0 then Lib.accLo (i / 2) else Lib.accHi (i / 2))).toArray)).modify
      5 (withCells (numCells Rows.laid_internal_strconv_uint64pow10))).modify
      6 (withCells (numCells Rows.laid_math_bits_deBruijn32tab))).modify
      7 (withCells (numCells Rows.laid_math_bits_deBruijn64tab))).modify
      4 (withCells #[.iface 239 (.pointer (some ⟨lowBlock, 0, none⟩))])).modify
      3 (withCells #[.iface 239 (.pointer (some ⟨lowBlock + 1, 0, none⟩))]) }
abbrev laid7 : List (String × DataW Unit) := [("math/bits.deBruijn32tab", Rows.laid_math_bits_deBruijn32tab), ("math/bits.deBruijn64tab", Rows.laid_math_bits_deBruijn64tab), ("internal/strconv.uint64pow10", Rows.laid_internal_strconv_uint64pow10), ("unicode/utf8.acceptRanges", Rows.laid_unicode_utf8_acceptRanges), ("strconv.ErrRange", Rows.laid_strconv_ErrRange), ("strconv.ErrSyntax", Rows.laid_strconv_ErrSyntax), ("unicode/utf8.first", Rows.laid_unicode_utf8_first)]
theorem laid7_met (os : Os) (args : Array Value) : laidMet Tryz.prog laid7 ((laidWorld os).forCall (fun _ _ => 0) ⟨#[], args, []⟩).memory :=
  laidMet_of_run' 8 (by kernel_rfl) (by kernel_rfl)
theorem laid7_plain {W : World} (h : laidMetH Tryz.prog laid7 W) : laidMet Tryz.prog laid7 W := h
theorem tabs_of_laid7 {W : World} (h : laidMetH Tryz.prog laid7 W) : Tabs W := by
  have h' := laid7_plain h
  refine utf8Tabs_of_readsT u8types u8extra ?_ ?_
  · rw [← first_is]; exact Lib.laidMet.reads h' (by simp)
  · rw [← accept_is]; exact Lib.laidMet.reads h' (by simp)
theorem err_star : "*" ++ "errors.errorString" = "*errors.errorString" := by decide
theorem err_row (u : TypeId) (h : Tryz.prog.typeName? 3 u = some "*errors.errorString") : u = 239 :=
  typeName_ptr_named (nm := "errors.errorString") (by rw [err_star]; kernel_rfl) (by kernel_rfl) (by decide) u (by rw [err_star]; exact h)
theorem errV_of_laid7 {W : World} (h : laidMetH Tryz.prog laid7 W) : ErrV W := by
  have h' := laid7_plain h
  obtain ⟨a, s, hv, _, _, _⟩ := laid_sentinel (g := 4) (ti := 215) h'.tail.tail.tail.tail (by kernel_rfl) (by kernel_rfl) Tryz.underlying215 err_row Tryz.underlying239 Tryz.underlying241 rfl rfl Tryz.underlying9 (by kernel_rfl) (by kernel_rfl)
  have hg : Tryz.prog.globalNamed "strconv.ErrRange" = some 4 := by kernel_rfl
  exact ⟨_, _, by simpa using World.var?_cell hg hv 0⟩
end Go.Proofs.YtleclhnlojalbaaGreatDoor
