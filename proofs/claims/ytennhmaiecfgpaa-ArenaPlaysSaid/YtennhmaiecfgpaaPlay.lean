/-
  What the law ArenaPlays holds in memory in one of its rounds, and what each step makes of it: the arena's step, the closure 'grow' (by a contract of its own), a copy into the law's own row, a store into one of its variables. Conditions: those that each theorem names.
-/
import Derived.Test.YtennhmaiecfgpaaAAwake
import Derived.Test.YtennhmaiecfgpaaRefFit
import Derived.OneCell
namespace Go.Proofs.Ytennhmaiecfgpaa
open Go.ChangeShapes Go.WideShapes Go.ChangeAt Go.RowKit

/-- A round's memory: the law's variables (most, b, over; the call x; want, is), the law's row of bytes, and the arena. -/
structure Rnd (w : World) (base ar x : Nat) (L K N S U : Int) (D : Option Addr) (dl dc : Nat) (zb : List Int) (ob : Bool) (B : Option Addr) (cb : Nat) (za : List Int) (oa : Bool) (A : Option Addr) (ca : Nat) (want : Int) (is : Bool) : Prop where
  hm : w.heap[base]? = some (.cells #[.int .i64 L] 3 (0, 0))
  hb : w.heap[ar + 1]? = some (.cells #[.slice B zb.length cb] 26 (0, 0))
  hv : w.heap[ar + 2]? = some (.cells #[.bool ob] 4 (0, 0))
  hx : w.heap[x]? = some (.cells #[.int .i64 K, .int .i64 N, .int .i64 S, .int .u64 U, .slice D dl dc] 29 (0, 0))
  hw : w.heap[x + 1]? = some (.cells #[.int .i64 want] 3 (0, 0))
  hi : w.heap[x + 2]? = some (.cells #[.bool is] 4 (0, 0))
  own : OwnV w (ar + 3) 5 B cb zb
  arena : IsArena w base ar A ca za (atMost L) oa
  rowA : ∀ k, rowOf A = some k → ar + 3 ≤ k ∧ (k < x ∨ x + 3 ≤ k)
  rowB : ∀ k, rowOf B = some k → ar + 3 ≤ k ∧ (k < x ∨ x + 3 ≤ k)
  apart : ∀ k, rowOf A = some k → rowOf B ≠ some k
  o1 : base < ar
  o2 : ar + 3 ≤ x
  o3 : x + 3 ≤ w.heap.size

section
variable {w w' : World} {base ar x : Nat} {L K N S U : Int} {D : Option Addr} {dl dc : Nat} {zb : List Int} {ob : Bool} {B : Option Addr} {cb : Nat} {za : List Int} {oa : Bool} {A : Option Addr} {ca : Nat} {want : Int} {is : Bool}
theorem Rnd.stepped (h : Rnd w base ar x L K N S U D dl dc zb ob B cb za oa A ca want is) {za' : List Int} {oa' : Bool} (hs : Stepped w w' base ar A za' (atMost L) oa') :
    Below base w w' ∧ ∃ A' ca', Rnd w' base ar x L K N S U D dl dc zb ob B cb za' oa' A' ca' want is := by
  obtain ⟨A', ca', ha, hm, hf⟩ := hs
  have o1 := h.o1
  have o2 := h.o2
  have o3 := h.o3
  refine ⟨hm.base h.arena, A', ca', ?_⟩
  have key : ∀ k, k < w.heap.size → k ≠ ar → (rowOf A ≠ some k) → w'.heap[k]? = w.heap[k]? := fun k h1 h2 h3 => hm.block k h1 h2 (fun e => h3 e.symm)
  have nr : ∀ k, k < ar + 3 → rowOf A ≠ some k := fun k hk e => by have := (h.rowA k e).1; omega
  have nx : ∀ k, x ≤ k → k < x + 3 → rowOf A ≠ some k := fun k h1 h2 e => by have := (h.rowA k e).2; omega
  refine ⟨(key _ (by omega) (by omega) (nr _ (by omega))).trans h.hm, (key _ (by omega) (by omega) (nr _ (by omega))).trans h.hb, (key _ (by omega) (by omega) (nr _ (by omega))).trans h.hv, (key _ (by omega) (by omega) (nx _ (by omega) (by omega))).trans h.hx,
    (key _ (by omega) (by omega) (nx _ (by omega) (by omega))).trans h.hw, (key _ (by omega) (by omega) (nx _ (by omega) (by omega))).trans h.hi, h.own.kept (fun k hk => key k (h.own.row k hk).2 (by have := (h.rowB k hk).1; omega) (fun e => h.apart k e hk)), ha, ?_, h.rowB, ?_, o1, o2, by have := hm.size; omega⟩
  · intro k hk
    rcases hf with e | ⟨k', e, hk'⟩
    · exact h.rowA k (by rw [← e]; exact hk)
    · rw [e] at hk
      injection hk with hk
      omega
  · intro k hk hk2
    rcases hf with e | ⟨k', e, hk'⟩
    · exact h.apart k (by rw [← e]; exact hk) hk2
    · rw [e] at hk
      injection hk with hk
      have := (h.own.row k hk2).2
      omega
/-- A store into one of the law's one-cell variables. -/
theorem Rnd.stored (h : Rnd w base ar x L K N S U D dl dc zb ob B cb za oa A ca want is) (k : Nat) (v : Value) (hk : k = ar + 2 ∨ k = x + 1 ∨ k = x + 2) :
    Below base w (w.setCell ⟨k, 0, none⟩ v) ∧ (∀ j, j ≠ k → (w.setCell ⟨k, 0, none⟩ v).heap[j]? = w.heap[j]?) ∧ OwnV (w.setCell ⟨k, 0, none⟩ v) (ar + 3) 5 B cb zb ∧ IsArena (w.setCell ⟨k, 0, none⟩ v) base ar A ca za (atMost L) oa ∧ x + 3 ≤ (w.setCell ⟨k, 0, none⟩ v).heap.size := by
  have o1 := h.o1
  have o2 := h.o2
  have o3 := h.o3
  have key : ∀ j, j ≠ k → (w.setCell ⟨k, 0, none⟩ v).heap[j]? = w.heap[j]? := fun j hj => Below.heap_setCell _ _ _ _ hj
  refine ⟨(Below.refl _ _).setCell (by show base ≤ k; omega) _, key, h.own.kept (fun j hj => key j ?_), h.arena.kept (by simp [World.setCell]) (key _ (by omega)) (fun j hj => key j ?_), by simpa [World.setCell] using o3⟩
  · have := h.rowB j hj; omega
  · have := h.rowA j hj; omega
theorem Rnd.setOver (h : Rnd w base ar x L K N S U D dl dc zb ob B cb za oa A ca want is) (v : Bool) :
    Below base w (w.setCell ⟨ar + 2, 0, none⟩ (.bool v)) ∧ Rnd (w.setCell ⟨ar + 2, 0, none⟩ (.bool v)) base ar x L K N S U D dl dc zb v B cb za oa A ca want is := by
  obtain ⟨h1, key, h2, h3, h4⟩ := h.stored (ar + 2) (.bool v) (.inl rfl)
  have o1 := h.o1
  have o2 := h.o2
  exact ⟨h1, (key _ (by omega)).trans h.hm, (key _ (by omega)).trans h.hb, one_setCell h.hv, (key _ (by omega)).trans h.hx, (key _ (by omega)).trans h.hw, (key _ (by omega)).trans h.hi, h2, h3, h.rowA, h.rowB, h.apart, o1, o2, h4⟩
theorem Rnd.setWant (h : Rnd w base ar x L K N S U D dl dc zb ob B cb za oa A ca want is) (v : Int) :
    Below base w (w.setCell ⟨x + 1, 0, none⟩ (.int .i64 v)) ∧ Rnd (w.setCell ⟨x + 1, 0, none⟩ (.int .i64 v)) base ar x L K N S U D dl dc zb ob B cb za oa A ca v is := by
  obtain ⟨h1, key, h2, h3, h4⟩ := h.stored (x + 1) (.int .i64 v) (.inr (.inl rfl))
  have o1 := h.o1
  have o2 := h.o2
  exact ⟨h1, (key _ (by omega)).trans h.hm, (key _ (by omega)).trans h.hb, (key _ (by omega)).trans h.hv, (key _ (by omega)).trans h.hx, one_setCell h.hw, (key _ (by omega)).trans h.hi, h2, h3, h.rowA, h.rowB, h.apart, o1, o2, h4⟩
theorem Rnd.setIs (h : Rnd w base ar x L K N S U D dl dc zb ob B cb za oa A ca want is) (v : Bool) :
    Below base w (w.setCell ⟨x + 2, 0, none⟩ (.bool v)) ∧ Rnd (w.setCell ⟨x + 2, 0, none⟩ (.bool v)) base ar x L K N S U D dl dc zb ob B cb za oa A ca want v := by
  obtain ⟨h1, key, h2, h3, h4⟩ := h.stored (x + 2) (.bool v) (.inr (.inr rfl))
  have o1 := h.o1
  have o2 := h.o2
  exact ⟨h1, (key _ (by omega)).trans h.hm, (key _ (by omega)).trans h.hb, (key _ (by omega)).trans h.hv, (key _ (by omega)).trans h.hx, (key _ (by omega)).trans h.hw, one_setCell h.hi, h2, h3, h.rowA, h.rowB, h.apart, o1, o2, h4⟩
/-- The law's row was written or made anew, and its variable b holds it. -/
theorem Rnd.grown (h : Rnd w base ar x L K N S U D dl dc zb ob B cb za oa A ca want is) {w2 : World} {B2 : Option Addr} {cb2 : Nat} {zb2 : List Int} {v2 : Value} (hv2 : v2 = .slice B2 zb2.length cb2) (ho : OwnV w2 (ar + 3) 5 B2 cb2 zb2) (hg : w.grownBy w2 (rowOf B)) (hfr : rowOf B2 = rowOf B ∨ rowOf B2 = some w.heap.size) :
    Below base w (w2.setCell ⟨ar + 1, 0, none⟩ v2) ∧ Rnd (w2.setCell ⟨ar + 1, 0, none⟩ v2) base ar x L K N S U D dl dc zb2 ob B2 cb2 za oa A ca want is := by
  subst hv2
  have o1 := h.o1
  have o2 := h.o2
  have o3 := h.o3
  have k1 : ∀ k, k < w.heap.size → rowOf B ≠ some k → w2.heap[k]? = w.heap[k]? := fun k h1 h2 => hg.block k h1 (fun e => h2 e.symm)
  have nr : ∀ k, k < ar + 3 → rowOf B ≠ some k := fun k hk e => by have := (h.rowB k e).1; omega
  have nx : ∀ k, x ≤ k → k < x + 3 → rowOf B ≠ some k := fun k h1 h2 e => by have := (h.rowB k e).2; omega
  have key : ∀ k, k < w.heap.size → k ≠ ar + 1 → rowOf B ≠ some k → (w2.setCell ⟨ar + 1, 0, none⟩ (.slice B2 zb2.length cb2)).heap[k]? = w.heap[k]? := fun k h1 h2 h3 => (Below.heap_setCell _ _ _ _ h2).trans (k1 k h1 h3)
  have hB2 : ∀ k, rowOf B2 = some k → ar + 3 ≤ k ∧ (k < x ∨ x + 3 ≤ k) := by
    intro k hk
    rcases hfr with e | e
    · exact h.rowB k (by rw [← e]; exact hk)
    · rw [e] at hk
      injection hk with hk
      omega
  refine ⟨((Below.refl base w).grown hg (by omega) (fun k hk => by have := (h.rowB k hk).1; omega)).setCell (by show base ≤ ar + 1; omega) _, (key _ (by omega) (by omega) (nr _ (by omega))).trans h.hm, one_setCell ((k1 _ (by omega) (nr _ (by omega))).trans h.hb), (key _ (by omega) (by omega) (nr _ (by omega))).trans h.hv,
    (key _ (by omega) (by omega) (nx _ (by omega) (by omega))).trans h.hx, (key _ (by omega) (by omega) (nx _ (by omega) (by omega))).trans h.hw, (key _ (by omega) (by omega) (nx _ (by omega) (by omega))).trans h.hi, ho.kept (fun k hk => Below.heap_setCell _ _ _ _ (by have := (hB2 k hk).1; show k ≠ ar + 1; omega)),
    h.arena.kept ?_ (key _ (by omega) (by omega) (nr _ (by omega))) (fun k hk => key k (h.arena.own.row k hk).2 (by have := (h.rowA k hk).1; omega) (h.apart k hk)), h.rowA, hB2, ?_, o1, o2, ?_⟩
  · have := hg.size; simp [World.setCell]; omega
  · intro k hk hk2
    rcases hfr with e | e
    · exact h.apart k hk (by rw [← e]; exact hk2)
    · rw [e] at hk2
      injection hk2 with hk2
      have := (h.arena.own.row k hk).2
      omega
  · have := hg.size; simp [World.setCell]; omega
/-- The law's row was written where it stands. -/
theorem Rnd.copied (h : Rnd w base ar x L K N S U D dl dc zb ob B cb za oa A ca want is) {w2 : World} {g : Nat} {zb2 : List Int} (hB : B = some ⟨g, 0, none⟩) (hl : zb2.length = zb.length) (ho : OwnR w2 (ar + 3) 5 g zb.length cb zb2) (hg : w.grownBy w2 (some g)) :
    Below base w w2 ∧ Rnd w2 base ar x L K N S U D dl dc zb2 ob B cb za oa A ca want is := by
  have o1 := h.o1
  have o2 := h.o2
  have o3 := h.o3
  have hrb : rowOf B = some g := by rw [hB]; rfl
  have key : ∀ k, k < w.heap.size → rowOf B ≠ some k → w2.heap[k]? = w.heap[k]? := fun k h1 h2 => hg.block k h1 (fun e => h2 (by rw [hrb, e]))
  have nr : ∀ k, k < ar + 3 → rowOf B ≠ some k := fun k hk e => by have := (h.rowB k e).1; omega
  have nx : ∀ k, x ≤ k → k < x + 3 → rowOf B ≠ some k := fun k h1 h2 e => by have := (h.rowB k e).2; omega
  refine ⟨(Below.refl base w).grown hg (by omega) (fun k hk => by injection hk with hk; have := (h.rowB g hrb).1; omega), (key _ (by omega) (nr _ (by omega))).trans h.hm, ?_, (key _ (by omega) (nr _ (by omega))).trans h.hv,
    (key _ (by omega) (nx _ (by omega) (by omega))).trans h.hx, (key _ (by omega) (nx _ (by omega) (by omega))).trans h.hw, (key _ (by omega) (nx _ (by omega) (by omega))).trans h.hi, ?_,
    h.arena.kept hg.size (key _ (by omega) (nr _ (by omega))) (fun k hk => key k (h.arena.own.row k hk).2 (h.apart k hk)), h.rowA, h.rowB, h.apart, o1, o2, Nat.le_trans o3 hg.size⟩
  · rw [hl]; exact (key _ (by omega) (nr _ (by omega))).trans h.hb
  · rw [hB]; exact ho.toV
theorem Rnd.below (h : Rnd w base ar x L K N S U D dl dc zb ob B cb za oa A ca want is) (hb : Below w.heap.size w w') : Rnd w' base ar x L K N S U D dl dc zb ob B cb za oa A ca want is := by
  have o1 := h.o1
  have o2 := h.o2
  have o3 := h.o3
  exact ⟨(hb.block _ (by omega)).trans h.hm, (hb.block _ (by omega)).trans h.hb, (hb.block _ (by omega)).trans h.hv, (hb.block _ (by omega)).trans h.hx, (hb.block _ (by omega)).trans h.hw, (hb.block _ (by omega)).trans h.hi,
    h.own.kept (fun k hk => hb.block k (h.own.row k hk).2), h.arena.below hb, h.rowA, h.rowB, h.apart, o1, o2, Nat.le_trans o3 hb.size⟩

theorem grow_over (h : Rnd w base ar x L K N S U D dl dc zb true B cb za oa A ca want is) (n : Int) :
    Calls Try.prog 8 #[.int .i64 n, .pointer (some ⟨ar + 2, 0, none⟩), .pointer (some ⟨base, 0, none⟩), .pointer (some ⟨ar + 1, 0, none⟩), .pointer (some ⟨x + 1, 0, none⟩), .pointer (some ⟨x + 2, 0, none⟩)] w fun e w' => e = .returned (.tuple #[]) ∧ w = w' := by
  have c := cell_of_one h.hv
  clear h
  go_enter Try.func8, Try.ntmps8
  go_wp2
  refine bodyPost_ret (results_none rfl _ _ _) rfl ?_
  exact ⟨rfl, rfl⟩
theorem grow_no (h : Rnd w base ar x L K N S U D dl dc zb false B cb za oa A ca want is) (n : Int) (hL0 : 0 ≤ L) (hL1 : L ≤ 9223372036854775807) (hzb : (zb.length : Int) ≤ 9223372036854775807) (hn : n < 0 ∨ L - zb.length < n) :
    Calls Try.prog 8 #[.int .i64 n, .pointer (some ⟨ar + 2, 0, none⟩), .pointer (some ⟨base, 0, none⟩), .pointer (some ⟨ar + 1, 0, none⟩), .pointer (some ⟨x + 1, 0, none⟩), .pointer (some ⟨x + 2, 0, none⟩)] w fun e w' => e = .returned (.tuple #[]) ∧ Below base w w' ∧ Rnd w' base ar x L K N S U D dl dc zb true B cb za oa A ca want is := by
  have c1 := cell_of_one h.hv
  have f1 := free_of_one h.hv
  have c2 := cell_of_one h.hm
  have c3 := cell_of_one h.hb
  have H := Lib.hid (h.setOver true)
  clear h
  by_cases h0 : n < 0
  · clear hn
    go_enter Try.func8, Try.ntmps8
    go_wp2
    refine bodyPost_ret (results_none rfl _ _ _) rfl ?_
    exact ⟨rfl, H.out⟩
  · have h1 : L - zb.length < n := by omega
    clear hn
    go_enter Try.func8, Try.ntmps8
    go_wp2
    refine bodyPost_ret (results_none rfl _ _ _) rfl ?_
    exact ⟨rfl, H.out⟩
theorem grow_yes (h : Rnd w base ar x L K N S U D dl dc zb false B cb za oa A ca want is) (n : Int) (hL1 : L ≤ 9223372036854775807) (h0 : 0 ≤ n) (h1 : n ≤ L - zb.length) (hbd : zb.length + n ≤ 140737488355328) :
    Calls Try.prog 8 #[.int .i64 n, .pointer (some ⟨ar + 2, 0, none⟩), .pointer (some ⟨base, 0, none⟩), .pointer (some ⟨ar + 1, 0, none⟩), .pointer (some ⟨x + 1, 0, none⟩), .pointer (some ⟨x + 2, 0, none⟩)] w fun e w' => e = .returned (.tuple #[]) ∧ Below base w w' ∧ ∃ B' cb', Rnd w' base ar x L K N S U D dl dc (zb ++ zeros n.toNat) false B' cb' za oa A ca zb.length true := by
  obtain ⟨n, rfl⟩ := Int.eq_ofNat_of_zero_le h0
  rw [Int.toNat_natCast]
  obtain ⟨i0, hi0, hz0, hz1, hz2⟩ := info_parts u8_info
  have I1 := Lib.hid hi0
  have I2 := Lib.hid hz0
  have I3 := Lib.hid hz1
  have I4 := Lib.hid hz2
  have c1 := cell_of_one h.hv
  have c2 := cell_of_one h.hm
  have c3 := cell_of_one h.hb
  have c4 := cell_of_one h.hw
  have f4 := free_of_one h.hw
  have c5 := cell_of_one h.hi
  have f5 := free_of_one h.hi
  obtain ⟨hb1, h1'⟩ := h.setWant zb.length
  obtain ⟨hb2, h2'⟩ := h1'.setIs true
  have H2 := Lib.hid h2'
  have HB2 := Lib.hid (hb1.trans hb2)
  have o2 := h.o2
  clear hi0 hz0 hz1 hz2 h h1' h2' hb1 hb2
  go_enter Try.func8, Try.ntmps8
  go_wp2_with (at_builtin; refine wpList_app_zeros _ rfl (.tmp 20) (.tmp 21) 26 3 rfl (ar + 3) 5 i0 Try.underlying26 Try.underlying3 I1.out I2.out I3.out I4.out B cb zb zb.length n rfl rfl H2.out.own rfl (by omega) (by have := H2.out.o3; omega) ?_; intro B2 cap2 w2 hown2 hg2 hfr2; have hbk := hg2.block (ar + 1) (by have := H2.out.o3; omega) (fun e => by have := (H2.out.rowB _ e.symm).1; omega); have d0 := cell_of_one (hbk.trans H2.out.hb); have e0 := free_of_one (hbk.trans H2.out.hb); have HO := Lib.hid hown2; have HG := Lib.hid hg2; have HF := Lib.hid hfr2; clear hown2 hg2 hfr2 hbk)
  go_end0
  have hfin := H2.out.grown (v2 := .slice B2 (zb.length + n) cap2) (by rw [List.length_append]; simp [zeros]) HO.out HG.out HF.out
  exact ⟨rfl, HB2.out.trans hfin.1, B2, cap2, hfin.2⟩
end
end Go.Proofs.Ytennhmaiecfgpaa
