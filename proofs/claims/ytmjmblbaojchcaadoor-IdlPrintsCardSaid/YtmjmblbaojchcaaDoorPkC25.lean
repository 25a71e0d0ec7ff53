/-
  The package lex's token: the token at a place, and the place behind it. Conditions: those that each theorem names; the library's tables hold what the row lists.
-/
import Derived.Test.YtmjmblbaojchcaaDoorPkC24
import Derived.Laws.BytesArg
namespace Go.Proofs.YtmjmblbaojchcaaDoor
open Go.ChangeShapes Go.WideShapes Go.ChangeAt Go.RowKit Go.Shelf

/-- A token's value. -/
def tokAgg (t : Tok) : Value := .agg #[.int .i64 t.kind, .string (strOfNums t.text), .int .i64 t.place]
def tokVal : Option (Tok × Nat) → Value
  | none => .tuple #[.agg #[.int .i64 0, .string ByteArray.empty, .int .i64 0], .int .i64 0, .bool false]
  | some (t, e) => .tuple #[.agg #[.int .i64 t.kind, .string (strOfNums t.text), .int .i64 t.place], .int .i64 e, .bool true]
theorem sub_str (b off c n i j m t d : Nat) (zs : List Int) (w : World) (hz : Bytes w (some ⟨b, off, none⟩) zs) (hn : zs.length = n) (hij : i ≤ j) (hj : j ≤ n) (hi : i < n) (hm : m = j - i) (ht : t = 22) (hd : d = 9) :
    (convert t d (.slice (some ⟨b, off + i, none⟩) m c)).run Tryd.prog w = .ok (.string (strOfNums (sub zs i j))) w := by
  subst ht hd
  obtain ⟨b', off', he, hlt, hcell⟩ := hz.2 (by rintro rfl; simp at hn; omega)
  cases he
  refine run_convert_bytes_arg (P := Tryd.prog) w 22 5 Tryd.underlying22 Tryd.underlying5 b (off + i) m c (sub zs i j) (by rw [sub_length zs i j hij (by omega), hm]) (fun k hk => ?_) 9 Tryd.underlying9
  rw [sub_get zs i j k (by omega), Nat.add_assoc]
  exact hcell (i + k) (by omega)
/-- The block of the result lies as it was laid. -/
def ResBlk (g : Nat) (W : World) : Prop := W.heap[g]? = some (.cells #[.int .i64 0, .string ⟨#[]⟩, .int .i64 0] 57 (0, 0))
theorem ResBlk.later {g : Nat} {W W' : World} (h : ResBlk g W) (hb : Below W.heap.size W W') : ResBlk g W' := by
  have hlt : g < W.heap.size := by
    rcases Nat.lt_or_ge g W.heap.size with h' | h'
    · exact h'
    · unfold ResBlk at h
      rw [Array.getElem?_eq_none h'] at h
      cases h
  exact (hb.block g hlt).trans h
theorem ResBlk.facts {g : Nat} {W : World} (h : ResBlk g W) : W.cell? ⟨g, 0, none⟩ = some (.int .i64 0) ∧ W.cell? ⟨g, 1, none⟩ = some (.string ⟨#[]⟩) ∧ W.cell? ⟨g, 2, none⟩ = some (.int .i64 0) ∧ W.frozen? ⟨g, 0, none⟩ = false ∧ W.frozen? ⟨g, 1, none⟩ = false ∧ W.frozen? ⟨g, 2, none⟩ = false := by
  refine ⟨?_, ?_, ?_, ?_, ?_, ?_⟩
  · rw [cell_of_row W g 0 _ _ (0, 0) h]; rfl
  · rw [cell_of_row W g 1 _ _ (0, 0) h]; rfl
  · rw [cell_of_row W g 2 _ _ (0, 0) h]; rfl
  · simp [World.frozen?, show W.heap[g]? = _ from h]
  · simp [World.frozen?, show W.heap[g]? = _ from h]
  · simp [World.frozen?, show W.heap[g]? = _ from h]
theorem resBlk_new (w : World) : ResBlk w.heap.size (w.alloc (.cells #[.int .i64 0, .string ⟨#[]⟩, .int .i64 0] 57)) := heap_alloc_new w _
set_option maxHeartbeats 800000 in
theorem token_end (p : Option Addr) (n cap i : Nat) (x : Int) (v : Value) (w : World) (hx : x = i) (hi : i = n) :
    Calls Tryd.prog 35 #[.slice p n cap, .int .i64 x, v] w fun e w' => e = .returned (tokVal (some (⟨0, [], i⟩, i))) ∧ Below w.heap.size w w' := by
  subst hx
  subst hi
  go_enter Tryd.func35, Tryd.ntmps35
  go_wp2
  exact bodyPost_ret (v := .tuple #[.agg #[.int .i64 0, .string ⟨#[]⟩, .int .i64 i], .int .i64 i, .bool true]) (by simp [results, Tryd.results35, go_sem]) rfl ⟨rfl, (Below.refl _ _).alloc (Nat.le_refl _) _⟩
set_option maxHeartbeats 800000 in
theorem token_name (b off n cap i : Nat) (x : Int) (v : Value) (zs : List Int) (w : World) (hx : x = i) (hz : Bytes w (some ⟨b, off, none⟩) zs) (hn : zs.length = n) (hl : n ≤ 281474976710656) (hi : i < n) (hcap : n ≤ cap) (h1 : stA zs isLet i = true) :
    Calls Tryd.prog 35 #[.slice (some ⟨b, off, none⟩) n cap, .int .i64 x, v] w fun e w' => e = .returned (tokVal (some (⟨1, sub zs i (runTo zs (fun c => isLet c || isDig c) i), i⟩, runTo zs (fun c => isLet c || isDig c) i))) ∧ Below w.heap.size w w' := by
  subst hx
  have HR := Lib.hid (fun (j : Nat) (y : Int) v k W hy hb hk => stands_any (some ⟨b, off, none⟩) n cap j y zs v k W hy (Bytes.below hz (Nat.le_refl _) hb) hn hk hl)
  have HU := Lib.hid (fun (j : Nat) (y : Int) v k W hy hj hb hk => run_any (some ⟨b, off, none⟩) n cap j y zs v k W hy (Bytes.below hz (Nat.le_refl _) hb) hn hk hl hj)
  have HS := Lib.hid (fun c j m t d W hb hij hj hm ht hd => sub_str b off c n i j m t d zs W (Bytes.below hz (Nat.le_refl _) hb) hn hij hj hi hm ht hd)
  have H1 := Lib.hid h1
  have hlo := runTo_ge zs (fun c => isLet c || isDig c) i
  have hup := runTo_le zs (fun c => isLet c || isDig c) i (by omega)
  rw [hn] at hup
  generalize hE : runTo zs (fun c => isLet c || isDig c) i = E at hlo hup ⊢
  have HE := Lib.hid hE
  clear hz hn h1 hE
  have t0 : ((i : Int) == (n : Int)) = false := by simp; omega
  go_enter Tryd.func35, Tryd.ntmps35
  go_wp2_with fail
  refine (letter_any _).mono ?_
  rintro e W1 ⟨v1, rfl, hb1, hk1⟩
  have HK1 := Lib.hid hk1
  have HG1 := Lib.hid ((resBlk_new w).later hb1)
  have HB1 := Lib.hid (((Below.refl _ _).alloc (Nat.le_refl _) _).trans (hb1.mono (by simp)))
  clear hk1 hb1
  go_wp2_with fail
  refine (HR.out i _ v1 isLet W1 rfl HB1.out HK1.out).mono ?_
  rintro e W2 ⟨rfl, hb2⟩
  have HG2 := Lib.hid (HG1.out.later hb2)
  have HB2 := Lib.hid (HB1.out.trans (hb2.mono HB1.out.size))
  clear hb2
  rw [H1.out]
  go_wp2_with fail
  refine (letter_any _).mono ?_
  rintro e W3 ⟨v3, rfl, hb3, hk3⟩
  have HK3 := Lib.hid hk3
  have HG3 := Lib.hid (HG2.out.later hb3)
  have HB3 := Lib.hid (HB2.out.trans (hb3.mono HB2.out.size))
  clear hk3 hb3
  go_wp2_with fail
  refine (digit_any _).mono ?_
  rintro e W4 ⟨v4, rfl, hb4, hk4⟩
  have HK4 := Lib.hid hk4
  have HK3' := Lib.hid (HK3.out.later hb4)
  have HG4 := Lib.hid (HG3.out.later hb4)
  have HB4 := Lib.hid (HB3.out.trans (hb4.mono HB3.out.size))
  clear hk4 hb4
  go_wp2_with fail
  refine (either_any v3 v4 _ _ _ HK3'.out HK4.out).mono ?_
  rintro e W5 ⟨v5, rfl, hb5, hk5⟩
  have HK5 := Lib.hid hk5
  have HG5 := Lib.hid (HG4.out.later hb5)
  have HB5 := Lib.hid (HB4.out.trans (hb5.mono HB4.out.size))
  clear hk5 hb5
  go_wp2_with fail
  refine (HU.out i _ v5 _ W5 rfl (by omega) HB5.out HK5.out).mono ?_
  rintro e W6 ⟨rfl, hb6⟩
  have HG6 := Lib.hid (HG5.out.later hb6)
  have HB6 := Lib.hid (HB5.out.trans (hb6.mono HB5.out.size))
  clear hb6
  rw [HE.out]
  have kc := HS.out (cap - i) E (E - i) 22 9 W6 HB6.out hlo hup rfl rfl rfl
  obtain ⟨g0, g1, g2, f0, f1, f2⟩ := HG6.out.facts
  have hci : ¬ cap = i := by omega
  go_wp2
  exact bodyPost_ret (v := .tuple #[.agg #[.int .i64 1, .string (strOfNums (sub zs i E)), .int .i64 i], .int .i64 E, .bool true]) (by simp [results, Tryd.results35, go_sem, g0, g1, g2]) rfl ⟨rfl, ((HB6.out.setCell (Nat.le_refl _) _).setCell (Nat.le_refl _) _).setCell (Nat.le_refl _) _⟩
end Go.Proofs.YtmjmblbaojchcaaDoor
