/-
  The library's Clone of a text, laid at this translation. Conditions: those that each theorem names.
-/
import Derived.Test.YtiknhkkeifemcaaGreatDoorPkN1
import Derived.Test.YtiknhkkeifemcaaGreatDoorPkN2
import Derived.Test.YtiknhkkeifemcaaGreatDoorPkN5
import Derived.Lib.OthersKept
import Derived.Laws.RangeAny
import Derived.Lib.TrimU
import Derived.Deep.Cut
import Derived.Deep.AppendLies
import Derived.OwnWalk
import Derived.BigQuiet
import Derived.BigRegion
import Derived.Deep.QuietTactic
import Derived.Shelf.Pu.Clone
import Derived.Lib.Hide
namespace Go.Proofs.YtiknhkkeifemcaaGreatDoor
open Go.RowKit

def uLt : List Int → List Int → Bool
  | [], [] => false
  | [], _ :: _ => true
  | _ :: _, [] => false
  | x :: xs, y :: ys => if x = y then uLt xs ys else decide (x < y)
theorem uLt_trans : ∀ {a b c : List Int}, uLt a b = true → uLt c b = false → uLt a c = true
  | [], [], _, h, _ => by cases h
  | [], _ :: _, [], _, h => by cases h
  | [], _ :: _, _ :: _, _, _ => rfl
  | _ :: _, [], _, h, _ => by cases h
  | _ :: _, _ :: _, [], _, h => by cases h
  | x :: xs, y :: ys, z :: zs, h1, h2 => by
    rw [uLt] at h1 h2 ⊢
    by_cases e1 : x = y
    · subst e1
      rw [if_pos rfl] at h1
      by_cases e2 : z = x
      · subst e2
        rw [if_pos rfl] at h2 ⊢
        exact uLt_trans h1 h2
      · rw [if_neg e2] at h2
        rw [if_neg (fun e => e2 e.symm)]
        have := of_decide_eq_false h2
        exact decide_eq_true (by omega)
    · rw [if_neg e1] at h1
      have h3 := of_decide_eq_true h1
      by_cases e2 : z = y
      · subst e2
        rw [if_neg e1]
        exact h1
      · rw [if_neg e2] at h2
        have h4 := of_decide_eq_false h2
        rw [if_neg (by omega)]
        exact decide_eq_true (by omega)
def insD (lt : Nat → Nat → Bool) (x : Nat) : List Nat → List Nat
  | [] => [x]
  | y :: r => if lt x y = true then x :: y :: r else y :: insD lt x r
def sortD (lt : Nat → Nat → Bool) : Nat → List Nat
  | 0 => []
  | n + 1 => insD lt n (sortD lt n)
theorem insD_split (lt : Nat → Nat → Bool) (x : Nat) : ∀ (pre post : List Nat), (∀ p ∈ pre, lt x p = false) → (∀ p ∈ post, lt x p = true) → insD lt x (pre ++ post) = pre ++ x :: post
  | [], [], _, _ => rfl
  | [], y :: r, _, h => by rw [List.nil_append, insD, if_pos (h y (List.mem_cons_self))]; rfl
  | y :: pre, post, h, h2 => by
    rw [List.cons_append, insD, h y List.mem_cons_self, if_neg (by decide), insD_split lt x pre post (fun p hp => h p (List.mem_cons_of_mem _ hp)) h2]; rfl
theorem insD_mem (lt : Nat → Nat → Bool) (x : Nat) : ∀ (l : List Nat) (p : Nat), p ∈ insD lt x l ↔ p = x ∨ p ∈ l
  | [], p => by simp [insD]
  | y :: r, p => by
    rw [insD]
    split
    · simp
    · rw [List.mem_cons, insD_mem lt x r p, List.mem_cons]
      constructor
      · rintro (h | h | h) <;> simp [h]
      · rintro (h | h | h) <;> simp [h]
theorem insD_len (lt : Nat → Nat → Bool) (x : Nat) : ∀ (l : List Nat), (insD lt x l).length = l.length + 1
  | [] => rfl
  | y :: r => by
    rw [insD]
    split
    · rfl
    · rw [List.length_cons, insD_len lt x r]; rfl
theorem sortD_len (lt : Nat → Nat → Bool) : ∀ n, (sortD lt n).length = n
  | 0 => rfl
  | n + 1 => by rw [sortD, insD_len, sortD_len lt n]
theorem sortD_mem (lt : Nat → Nat → Bool) : ∀ n p, p ∈ sortD lt n ↔ p < n
  | 0, p => by simp [sortD]
  | n + 1, p => by rw [sortD, insD_mem, sortD_mem lt n]; omega
theorem uLt_asym : ∀ {a b : List Int}, uLt a b = true → uLt b a = false
  | [], [], h => by cases h
  | [], _ :: _, _ => rfl
  | _ :: _, [], h => by cases h
  | x :: xs, y :: ys, h => by
    rw [uLt] at h ⊢
    by_cases e : x = y
    · subst e
      rw [if_pos rfl] at h ⊢
      exact uLt_asym h
    · rw [if_neg e] at h
      rw [if_neg (fun e2 => e e2.symm)]
      have := of_decide_eq_true h
      exact decide_eq_false (by omega)
structure OrdL (lt : Nat → Nat → Bool) : Prop where
  asym : ∀ a b, lt a b = true → lt b a = false
  tr : ∀ a b c, lt a b = true → lt c b = false → lt a c = true
theorem ord_of (u : Nat → List Int) : OrdL fun a b => uLt (u a) (u b) := ⟨fun _ _ => uLt_asym, fun _ _ _ => uLt_trans⟩
def UpL (lt : Nat → Nat → Bool) (l : List Nat) : Prop := l.Pairwise fun p q => lt q p = false
theorem insD_up {lt : Nat → Nat → Bool} (h : OrdL lt) (x : Nat) : ∀ {l : List Nat}, UpL lt l → UpL lt (insD lt x l)
  | [], _ => by simp [insD, UpL]
  | y :: r, hl => by
    unfold UpL at hl ⊢
    rw [List.pairwise_cons] at hl
    rw [insD]
    split
    · rename_i hx
      refine List.pairwise_cons.2 ⟨fun q hq => ?_, List.pairwise_cons.2 hl⟩
      rcases List.mem_cons.1 hq with rfl | hq
      · exact h.asym _ _ hx
      · exact h.asym _ _ (h.tr _ _ _ hx (hl.1 q hq))
    · rename_i hx
      refine List.pairwise_cons.2 ⟨fun q hq => ?_, insD_up h x hl.2⟩
      rcases (insD_mem lt x r q).1 hq with rfl | hq
      · simpa using hx
      · exact hl.1 q hq
theorem sortD_up {lt : Nat → Nat → Bool} (h : OrdL lt) : ∀ n, UpL lt (sortD lt n)
  | 0 => List.Pairwise.nil
  | n + 1 => insD_up h n (sortD_up h n)
theorem up_stop {lt : Nat → Nat → Bool} (h : OrdL lt) {A B : List Nat} {x y : Nat} (hu : UpL lt (A ++ y :: B)) (hx : lt x y = false) : ∀ a ∈ A ++ [y], lt x a = false := by
  intro a ha
  rcases List.mem_append.1 ha with ha | ha
  · cases hxa : lt x a with
    | false => rfl
    | true =>
      unfold UpL at hu
      rw [List.pairwise_append] at hu
      have h1 := hu.2.2 a ha y List.mem_cons_self
      rw [h.tr x a y hxa h1] at hx
      cases hx
  · rw [List.mem_singleton.1 ha]; exact hx
def cmpU : List Int → List Int → Int
  | [], [] => 0
  | [], _ :: _ => -1
  | _ :: _, [] => 1
  | x :: xs, y :: ys => if x < y then -1 else if y < x then 1 else cmpU xs ys
theorem cmpU_lt : ∀ a b : List Int, decide (cmpU a b < 0) = uLt a b
  | [], [] => rfl
  | [], _ :: _ => rfl
  | _ :: _, [] => rfl
  | x :: xs, y :: ys => by
    rw [cmpU, uLt]
    by_cases h : x < y
    · rw [if_pos h, if_neg (by omega), decide_eq_true h]; rfl
    · rw [if_neg h]
      by_cases h2 : y < x
      · rw [if_pos h2, if_neg (by omega), decide_eq_false h]; rfl
      · rw [if_neg h2, if_pos (by omega)]
        exact cmpU_lt xs ys
theorem cmpU_drop (a b : List Int) (k : Nat) (ha : k < a.length) (hb : k < b.length) : cmpU (a.drop k) (b.drop k) = if a.getD k 0 < b.getD k 0 then -1 else if b.getD k 0 < a.getD k 0 then 1 else cmpU (a.drop (k + 1)) (b.drop (k + 1)) := by
  rw [List.drop_eq_getElem_cons ha, List.drop_eq_getElem_cons hb, cmpU, List.getD, List.getElem?_eq_getElem ha, List.getD, List.getElem?_eq_getElem hb]
  rfl
theorem cmpU_end (a b : List Int) (k : Nat) (ha : k = a.length) (hb : k ≤ b.length) : cmpU (a.drop k) (b.drop k) = if a.length < b.length then -1 else 0 := by
  subst ha
  rw [List.drop_of_length_le (Nat.le_refl _)]
  by_cases h : a.length < b.length
  · rw [List.drop_eq_getElem_cons h, if_pos h]; rfl
  · rw [List.drop_of_length_le (by omega), if_neg h]; rfl
theorem cmpU_out (a b : List Int) (k : Nat) (ha : k < a.length) (hb : b.length ≤ k) : cmpU (a.drop k) (b.drop k) = 1 := by
  rw [List.drop_eq_getElem_cons ha, List.drop_of_length_le hb]; rfl
end Go.Proofs.YtiknhkkeifemcaaGreatDoor
namespace Go.Proofs.YtiknhkkeifemcaaGreatDoor
open Go.ChangeShapes Go.WideShapes Go.ChangeAt Go.RowKit Go.Shelf

def runesL (s : ByteArray) : Nat → Nat → List Int
  | 0, _ => []
  | f + 1, pos => if pos < s.size then ((Utf8.decode s pos).1 : Int) :: runesL s f (pos + (Utf8.decode s pos).2) else []
def runesP (s : ByteArray) : List Int := runesL s s.size 0
def unitR (c : Int) : List Int := if c < 65536 then [c] else [55296 + (c - 65536) / 1024, 56320 + (c - 65536) % 1024]
def unitsP (s : ByteArray) : List Int := (runesP s).flatMap unitR
theorem width_pos (s : ByteArray) (pos : Nat) (h : pos < s.size) : 1 ≤ (Utf8.decode s pos).2 := by
  by_cases ha : (s[pos]'h).toNat < 128
  · rw [decode_ascii s pos h ha]
    exact Nat.le_refl _
  · exact (decode_high s pos h (by omega)).2
theorem runesL_end (s : ByteArray) (f pos : Nat) (h : ¬ pos < s.size) : runesL s f pos = [] := by
  cases f with
  | zero => rfl
  | succ f => simp [runesL, h]
theorem runesL_step (s : ByteArray) (f pos : Nat) (h : pos < s.size) : runesL s (f + 1) pos = ((Utf8.decode s pos).1 : Int) :: runesL s f (pos + (Utf8.decode s pos).2) := by
  simp [runesL, h]
theorem unitR_le (c : Int) : (unitR c).length ≤ 2 := by
  unfold unitR
  split <;> simp
theorem unitR_small (c : Int) (h : c < 65536) : unitR c = [c] := if_pos h
theorem unitR_great (c : Int) (h : ¬ c < 65536) : unitR c = [55296 + (c - 65536) / 1024, 56320 + (c - 65536) % 1024] := if_neg h
def u16s (l : List Int) : List Value := l.map (Value.int .u16)
end Go.Proofs.YtiknhkkeifemcaaGreatDoor
namespace Go.Proofs.YtiknhkkeifemcaaGreatDoor
open Go.ChangeShapes Go.WideShapes Go.ChangeAt Go.RowKit

structure Exw (R S B : Nat) (w w' : World) : Prop where
  os : w'.os = w.os
  tape : w'.tape = w.tape
  output : w'.output = w.output
  size : w.heap.size ≤ w'.heap.size
  block : ∀ k, k < B → k ≠ R → k ≠ S → w'.heap[k]? = w.heap[k]?
theorem Exw.refl (R S B : Nat) (w : World) : Exw R S B w w := ⟨rfl, rfl, rfl, Nat.le_refl _, fun _ _ _ _ => rfl⟩
theorem Exw.trans {R S B : Nat} {a b c : World} (h : Exw R S B a b) (k : Exw R S B b c) : Exw R S B a c :=
  ⟨k.os.trans h.os, k.tape.trans h.tape, k.output.trans h.output, Nat.le_trans h.size k.size, fun i hi h1 h2 => (k.block i hi h1 h2).trans (h.block i hi h1 h2)⟩
theorem Exw.mono {R S B B' : Nat} {w w' : World} (h : Exw R S B w w') (hB : B' ≤ B) : Exw R S B' w w' := ⟨h.os, h.tape, h.output, h.size, fun k hk h1 h2 => h.block k (Nat.lt_of_lt_of_le hk hB) h1 h2⟩
theorem Exw.of_below {R S B : Nat} {w w' : World} (h : Below B w w') : Exw R S B w w' := ⟨h.os, h.tape, h.output, h.size, fun k hk _ _ => h.block k hk⟩
theorem Exw.then {R S : Nat} {a b c : World} (h : Exw R S a.heap.size a b) (k : Exw R S b.heap.size b c) : Exw R S a.heap.size a c := h.trans (k.mono h.size)
theorem Exw.bel {R S : Nat} {a b c : World} (h : Exw R S a.heap.size a b) (k : Below b.heap.size b c) : Exw R S a.heap.size a c := h.then (.of_below k)
theorem Exw.setCell {R S B : Nat} {a w : World} (h : Exw R S B a w) {p : Addr} (hp : p.block = R ∨ p.block = S ∨ B ≤ p.block) (u : Value) : Exw R S B a (w.setCell p u) :=
  ⟨h.os, h.tape, h.output, by rw [show (w.setCell p u).heap.size = w.heap.size by simp [World.setCell]]; exact h.size, fun k hk h1 h2 => (Below.heap_setCell _ _ _ _ (by omega)).trans (h.block k hk h1 h2)⟩
theorem Exw.drew {R S B : Nat} {a w : World} (h : Exw R S B a w) : Exw R S B a w.drew := ⟨h.os, h.tape, h.output, h.size, h.block⟩
theorem Exw.drewN {R S B : Nat} {a w : World} (h : Exw R S B a w) (n : Nat) : Exw R S B a (w.drewN n) := h.trans ⟨rfl, rfl, rfl, Nat.le_refl _, fun _ _ _ _ => rfl⟩
theorem Exw.cell {R S B : Nat} {w w' : World} (h : Exw R S B w w') {p : Addr} (hp : p.block < B) (h1 : p.block ≠ R) (h2 : p.block ≠ S) : w'.cell? p = w.cell? p := World.cell?_of_block (w := w) (h.block p.block hp h1 h2)
theorem Exw.below {R S B : Nat} {w w' : World} (h : Exw R S B w w') (hR : B ≤ R) (hS : B ≤ S) : Below B w w' := ⟨h.os, h.tape, h.output, h.size, fun k hk => h.block k hk (by omega) (by omega)⟩
theorem cell_exw {R S : Nat} {w W : World} (h : Exw R S w.heap.size w W) {p : Addr} {v : Value} (hp : w.cell? p = some v) (h1 : p.block ≠ R) (h2 : p.block ≠ S) : W.cell? p = some v := (h.cell (World.block_lt_of_cell? _ _ hp) h1 h2).trans hp
theorem blk_exw {R S B g : Nat} {w W : World} {o : Obj} (h : w.heap[g]? = some o) (hb : Exw R S B w W) (hg : g < B) (h1 : g ≠ R) (h2 : g ≠ S) : W.heap[g]? = some o := (hb.block g hg h1 h2).trans h
theorem Exw.ownsRow {R S : Nat} {w w' : World} (h : Exw R S w.heap.size w w') {base : Nat} {e : TypeId} {size : Nat} {v : Value} {n : Nat} {xs : List Value} (ho : w.ownsRow base e size v n xs) (hR : v.ownBlock ≠ some R) (hS : v.ownBlock ≠ some S) : w'.ownsRow base e size v n xs := by
  obtain ⟨hl, h'⟩ := ho
  refine ⟨hl, ?_⟩
  rcases h' with h1 | ⟨g, cap, cur, hv, hb, hg, hrest⟩
  · exact .inl h1
  · subst hv
    exact .inr ⟨g, cap, cur, rfl, hb, blk_exw hg h (blk_lt hg) (fun e => hR (by rw [e]; rfl)) (fun e => hS (by rw [e]; rfl)), hrest⟩
end Go.Proofs.YtiknhkkeifemcaaGreatDoor
namespace Go.Proofs.YtiknhkkeifemcaaGreatDoor
open Go.ChangeShapes Go.WideShapes Go.ChangeAt Go.RowKit Go.Shelf

theorem u16_info : (Tryz.prog.info? 240).map (fun i => (i.zero, i.size, i.bytes)) = some (some (.int .u16 0), 1, 2) := by kernel_rfl
theorem row_iter {W : World} {base : Nat} {e : TypeId} {size : Nat} {v : Value} {n : Nat} {xs : List Value} (h : W.ownsRow (base + 1) e size v n xs) (s : ByteArray) (pos : Nat) : (W.iterAt base s pos).ownsRow (base + 1) e size v n xs := by
  obtain ⟨hl, h'⟩ := h
  refine ⟨hl, ?_⟩
  rcases h' with h1 | ⟨g', cap', cur, hv, h1, hg', h2⟩
  · exact .inl h1
  · exact .inr ⟨g', cap', cur, hv, h1, (Lib.iterAt_other W base g' s pos (by omega)).trans hg', h2⟩
def UAt (w : World) (s : ByteArray) (e : TypeId) (k : IntKind) (v : Value) (W : World) : Prop :=
  ∃ (pos fuel : Nat) (acc : List Int), W.heap[w.heap.size]? = some (.stringIter s pos) ∧ Below w.heap.size w W ∧ W.ownsRow (w.heap.size + 1) e 1 v acc.length (acc.map (Value.int k)) ∧ acc ++ (runesL s fuel pos).flatMap unitR = unitsP s ∧ s.size ≤ pos + fuel ∧ acc.length ≤ 2 * pos
theorem uat_app {w W1 W2 : World} {s : ByteArray} {e : TypeId} {k : IntKind} {v v' : Value} {pos f n : Nat} {acc u : List Int} {o : Obj} (hit : W1.heap[w.heap.size]? = some (.stringIter s pos)) (hb : Below w.heap.size w W1) (hrow : W1.ownsRow (w.heap.size + 1) e 1 v n (acc.map (Value.int k))) (hlt : w.heap.size + 1 ≤ W1.heap.size)
    (hacc : (acc ++ u) ++ (runesL s f pos).flatMap unitR = unitsP s) (hf : s.size ≤ pos + f) (hl : (acc ++ u).length ≤ 2 * pos) (hown : W2.ownsRow (w.heap.size + 1) e 1 v' (acc ++ u).length ((acc ++ u).map (Value.int k))) (hg : (W1.alloc o).grownBy W2 v.ownBlock) : UAt w s e k v' W2 ∧ W2.iterPos w.heap.size = pos := by
  have hit2 : W2.heap[w.heap.size]? = some (.stringIter s pos) := by
    refine (hg.block w.heap.size (by rw [World.size_alloc]; omega) (fun he => ?_)).trans (blk_alloc hit o)
    have := (ownsRow_lt hrow _ he.symm).1
    omega
  refine ⟨⟨pos, f, acc ++ u, hit2, ?_, hown, hacc, hf, hl⟩, by simp only [World.iterPos, hit2]⟩
  exact (hb.alloc (by omega) o).grown hg (by rw [World.size_alloc]; omega) (fun q hq => by have := (ownsRow_lt hrow _ hq).1; omega)
def UPost (s : ByteArray) (e : TypeId) (k : IntKind) (w : World) (en : Ending) (w' : World) : Prop :=
  ∃ v, en = .returned v ∧ w'.ownsRow w.heap.size e 1 v (unitsP s).length ((unitsP s).map (Value.int k)) ∧ Below w.heap.size w w'
set_option maxRecDepth 100000 in
set_option maxHeartbeats 4000000 in
theorem lunits_any (s : ByteArray) (w : World) (hs : s.size ≤ 1000000000) :
    Calls Tryz.prog 152 #[.string s] w (UPost s 240 .u16 w) := by
  go_enter Tryz.func152, Tryz.ntmps152
  go_wp2
  go_loopw [3] (fun v wr => UAt w s 240 .u16 v wr) (fun _ wr => s.size - wr.iterPos w.heap.size)
  case atStart => exact ⟨0, s.size, [], World.iter_heap w s 0, (Below.refl _ w).alloc (Nat.le_refl _) _, World.ownsRow_nil _ _ _ _, rfl, by omega, by simp⟩
  case round =>
    obtain ⟨pos, fuel, acc, hit, hb, hrow, hacc, hfu, hal⟩ := hrel
    have hsz : w.heap.size < wr.heap.size := (Array.getElem?_eq_some_iff.1 hit).1
    have HROW := Lib.hid hrow
    have HACC := Lib.hid hacc
    have HB := Lib.hid hb
    have HIT := Lib.hid hit
    have HIP : Hid (wr.iterPos w.heap.size = pos) := Lib.hid (by simp only [World.iterPos, hit])
    obtain ⟨va, vc, rfl⟩ := ownsRow_form hrow
    clear hrow hacc hb hit
    by_cases hp : pos < s.size
    · have hnx : ∀ ty, (Instr.next (.pointer (some ⟨w.heap.size, 0, none⟩)) true ty).run Tryz.prog wr = _ := fun ty => Lib.run_next_any_at wr w.heap.size s pos ty HIT.out hp
      have hwd := width_pos s pos hp
      have hd1 : (Utf8.decode s pos).1 ≤ 1114111 := Lib.rune_le s pos
      obtain ⟨f, rfl⟩ : ∃ f, fuel = f + 1 := ⟨fuel - 1, by omega⟩
      have HST := Lib.hid (runesL_step s f pos hp)
      have HIT2 := Lib.hid (Lib.iterAt_heap wr w.heap.size s pos (pos + (Utf8.decode s pos).2) HIT.out)
      have HB2 := Lib.hid (Lib.below_iterAt HB.out (k := w.heap.size) (by omega) s (pos + (Utf8.decode s pos).2))
      have hsz2 : w.heap.size + 1 ≤ (wr.iterAt w.heap.size s (pos + (Utf8.decode s pos).2)).heap.size := by rw [Lib.iterAt_size]; omega
      have HROW2 := Lib.hid (row_iter HROW.out s (pos + (Utf8.decode s pos).2))
      generalize wr.iterAt w.heap.size s (pos + (Utf8.decode s pos).2) = W1 at *
      generalize (Utf8.decode s pos).2 = wid at *
      generalize (Utf8.decode s pos).1 = c at *
      clear HIT HB HROW
      by_cases hc : (c : Int) < 65536
      · have HU := Lib.hid (unitR_small c hc)
        have k1 : IntKind.u16.wrap (c : Int) = c := by simp only [IntKind.wrap, IntKind.bits, IntKind.signed]; simp; omega
        obtain ⟨i0, hi0, hz0, hz1, hz2⟩ := info_parts u16_info
        have I1 := Lib.hid hi0
        have I2 := Lib.hid hz0
        have I3 := Lib.hid hz1
        have I4 := Lib.hid hz2
        have HBN := Lib.hid (heap_alloc_new W1 (.cells #[.int .u16 c] 240))
        have HUA := Lib.hid (row_keep ((Below.refl _ W1).alloc (Nat.le_refl _) (.cells #[.int .u16 c] 240)) HROW2.out)
        have HFIN := Lib.hid (fun (v' : Value) (W2 : World) (hown : W2.ownsRow (w.heap.size + 1) 240 1 v' (acc.length + 1) (acc.map (Value.int .u16) ++ [.int .u16 c])) (hg : (W1.alloc (.cells #[.int .u16 c] 240)).grownBy W2 (Value.slice va acc.length vc).ownBlock) =>
          uat_app (w := w) (s := s) (u := [(c : Int)]) (f := f) HIT2.out HB2.out HROW2.out hsz2 (by rw [List.append_assoc, ← HACC.out, HST.out, List.flatMap_cons, HU.out]) (by omega) (by rw [List.length_append]; simp; omega) (by rw [List.length_append, List.map_append]; exact hown) hg)
        clear hi0 hz0 hz1 hz2 HACC HST HU HIT2 HB2
        go_upto_region 6 with (fail)
        clear hnx
        go_wp2_with (at_builtin; refine wpList_append_own _ rfl (.tmp 14) (.tmp 17) 236 rfl (w.heap.size + 1) 240 i0 _ 1 2 Tryz.underlying236 I1.out I2.out I3.out I4.out rfl (by decide) (.slice va acc.length vc) acc.length (acc.map (Value.int .u16)) rfl HUA.out _ 1 1 [.int .u16 c] rfl rfl (World.news_of_block HBN.out) (by intro u hu; simp at hu; subst hu; rfl) (by unfold maxLen; omega) (by omega) (by rw [World.size_alloc]; omega) ?_; intro v4 W8 hown4 hg4 hx; clear hx; have HF2 := Lib.hid (HFIN.out v4 W8 hown4 hg4); clear hown4 hg4)
        go_roundw
        case rel => exact HF2.out.1
        case measure => rw [HF2.out.2, HIP.out]; omega
      · have HU := Lib.hid (unitR_great c hc)
        have hd : decide ((c : Int) < 65536) = false := decide_eq_false hc
        obtain ⟨x, hx⟩ : ∃ x, (c : Int) - 65536 = x := ⟨_, rfl⟩
        have hx0 : 0 ≤ x := by omega
        have hx1 : x ≤ 1048575 := by omega
        rw [hx] at HU
        have k2 : IntKind.i32.wrap ((c : Int) - 65536) = x := by rw [hx]; simp only [IntKind.wrap, IntKind.bits, IntKind.signed]; simp; omega
        have k3 : x.tmod 1024 = x % 1024 := Int.tmod_eq_emod_of_nonneg hx0
        have q0 : 0 ≤ x / 1024 := by omega
        have q1 : x / 1024 ≤ 1023 := by omega
        have r0 : 0 ≤ x % 1024 := by omega
        have r1 : x % 1024 ≤ 1023 := by omega
        have k4 : IntKind.u16.wrap (55296 + x / 1024) = 55296 + x / 1024 := by simp only [IntKind.wrap, IntKind.bits, IntKind.signed]; simp; omega
        have k5 : IntKind.u16.wrap (56320 + x % 1024) = 56320 + x % 1024 := by simp only [IntKind.wrap, IntKind.bits, IntKind.signed]; simp; omega
        have k6 : IntKind.i32.wrap (55296 + x / 1024) = 55296 + x / 1024 := by simp only [IntKind.wrap, IntKind.bits, IntKind.signed]; simp; omega
        have k7 : IntKind.i32.wrap (56320 + x % 1024) = 56320 + x % 1024 := by simp only [IntKind.wrap, IntKind.bits, IntKind.signed]; simp; omega
        have k8 : (Op.shift .shr .i32 x .u64 10) = pure (.int .i32 (x / 1024)) := shift_shr_any (k := .i32) (yk := .u64) x 10 (by decide)
        clear hx
        go_upto_region 8 with (fail)
        clear hnx k2
        obtain ⟨i0, hi0, hz0, hz1, hz2⟩ := info_parts u16_info
        have I1 := Lib.hid hi0
        have I2 := Lib.hid hz0
        have I3 := Lib.hid hz1
        have I4 := Lib.hid hz2
        have HBN := Lib.hid (heap_alloc_new W1 (.cells #[.int .u16 (55296 + x / 1024), .int .u16 (56320 + x % 1024)] 240))
        have HUA := Lib.hid (row_keep ((Below.refl _ W1).alloc (Nat.le_refl _) (.cells #[.int .u16 (55296 + x / 1024), .int .u16 (56320 + x % 1024)] 240)) HROW2.out)
        have HFIN := Lib.hid (fun (v' : Value) (W2 : World) (hown : W2.ownsRow (w.heap.size + 1) 240 1 v' (acc.length + 2) (acc.map (Value.int .u16) ++ [.int .u16 (55296 + x / 1024), .int .u16 (56320 + x % 1024)])) (hg : (W1.alloc (.cells #[.int .u16 (55296 + x / 1024), .int .u16 (56320 + x % 1024)] 240)).grownBy W2 (Value.slice va acc.length vc).ownBlock) =>
          uat_app (w := w) (s := s) (u := [55296 + x / 1024, 56320 + x % 1024]) (f := f) HIT2.out HB2.out HROW2.out hsz2 (by rw [List.append_assoc, ← HACC.out, HST.out, List.flatMap_cons, HU.out]) (by omega) (by rw [List.length_append]; simp; omega) (by rw [List.length_append, List.map_append]; exact hown) hg)
        clear hi0 hz0 hz1 hz2 HACC HST HU HIT2 HB2
        go_wp2_with (at_builtin; refine wpList_append_own _ rfl (.tmp 21) (.tmp 30) 236 rfl (w.heap.size + 1) 240 i0 _ 1 2 Tryz.underlying236 I1.out I2.out I3.out I4.out rfl (by decide) (.slice va acc.length vc) acc.length (acc.map (Value.int .u16)) rfl HUA.out _ 2 2 [.int .u16 (55296 + x / 1024), .int .u16 (56320 + x % 1024)] rfl rfl (World.news_of_block HBN.out) (by intro u hu; simp at hu; rcases hu with rfl | rfl <;> rfl) (by unfold maxLen; omega) (by omega) (by rw [World.size_alloc]; omega) ?_; intro v4 W8 hown4 hg4 hx; clear hx; have HF2 := Lib.hid (HFIN.out v4 W8 hown4 hg4); clear hown4 hg4)
        go_roundw
        case rel => exact HF2.out.1
        case measure => rw [HF2.out.2, HIP.out]; omega
    · have hnx : ∀ ty, (Instr.next (.pointer (some ⟨w.heap.size, 0, none⟩)) true ty).run Tryz.prog wr = _ := fun ty => Lib.run_next_end_at wr w.heap.size s pos ty HIT.out hp
      have hend := runesL_end s fuel pos hp
      have hall : acc = unitsP s := by have h := HACC.out; rw [hend] at h; simpa using h
      have HALL := Lib.hid hall
      clear hend hall
      go_wp2
      go_ret
      refine ⟨_, rfl, ?_, HB.out⟩
      rw [← HALL.out]
      exact ownsRow_base HROW.out (Nat.le_succ _)
end Go.Proofs.YtiknhkkeifemcaaGreatDoor
namespace Go.Proofs.YtiknhkkeifemcaaGreatDoor
open Go.ChangeShapes Go.WideShapes Go.ChangeAt Go.RowKit Go.Shelf

theorem ret_i64 {a b : Int} (h : a = b) : Ending.returned (Value.int .i64 a) = .returned (.int .i64 b) := by rw [h]
def cmpZ (x y : Int) : Int := if x < y then -1 else if y < x then 1 else 0
theorem isnan_any (x : Int) (w : World) : Calls Tryz.prog 197 #[.int .u16 x] w fun e w' => e = .returned (.bool false) ∧ w = w' := by
  go_enter Tryz.func197, Tryz.ntmps197
  go_wp2
  go_ret
  exact ⟨by simp, rfl⟩
theorem cmp16_any (x y : Int) (w : World) : Calls Tryz.prog 178 #[.int .u16 x, .int .u16 y] w fun e w' => e = .returned (.int .i64 (cmpZ x y)) ∧ w = w' := by
  have HE : Hid (cmpZ x y = if x < y then -1 else if y < x then 1 else 0) := Lib.hid rfl
  generalize cmpZ x y = c at HE ⊢
  by_cases h1 : x < y
  · have HE2 := Lib.hid (HE.out.trans (if_pos h1))
    go_enter Tryz.func178, Tryz.ntmps178
    go_wp2_with (go_at_call 197; refine (isnan_any _ _).mono ?_; rintro e w' ⟨rfl, rfl⟩)
    go_ret
    exact ⟨ret_i64 HE2.out.symm, rfl⟩
  · by_cases h2 : y < x
    · have HE2 := Lib.hid ((HE.out.trans (if_neg h1)).trans (if_pos h2))
      go_enter Tryz.func178, Tryz.ntmps178
      go_wp2_with (go_at_call 197; refine (isnan_any _ _).mono ?_; rintro e w' ⟨rfl, rfl⟩)
      go_ret
      exact ⟨ret_i64 HE2.out.symm, rfl⟩
    · have HE2 := Lib.hid ((HE.out.trans (if_neg h1)).trans (if_neg h2))
      go_enter Tryz.func178, Tryz.ntmps178
      go_wp2_with (go_at_call 197; refine (isnan_any _ _).mono ?_; rintro e w' ⟨rfl, rfl⟩)
      go_ret
      exact ⟨ret_i64 HE2.out.symm, rfl⟩
theorem u16_at {w : World} {b : Nat} {v : Value} {l : List Int} (h : w.ownsRow b 240 1 v l.length (u16s l)) : ∃ A c, v = .slice A l.length c ∧ ∀ k, k < l.length → ∃ g, A = some ⟨g, 0, none⟩ ∧ g < w.heap.size ∧ w.cell? ⟨g, k, none⟩ = some (.int .u16 (l.getD k 0)) := by
  rcases h.2 with ⟨rfl, h0⟩ | ⟨g, cap, cur, rfl, hB, hg, hnc, hm, hs, ht⟩
  · rw [h0]
    exact ⟨none, 0, rfl, fun k hk => absurd hk (Nat.not_lt_zero k)⟩
  · refine ⟨_, cap, rfl, fun k hk => ⟨g, rfl, blk_lt hg, ?_⟩⟩
    rw [blk_cell hg k]
    have h1 : cur[k]? = (cur.toList.take (l.length * 1))[k]? := by
      rw [List.getElem?_take, if_pos (by omega), Array.getElem?_toList]
    rw [h1, ht]
    simp [u16s, List.getD, hk]
set_option maxRecDepth 100000 in
set_option maxHeartbeats 2000000 in
theorem compare_any {w : World} {b1 b2 : Nat} {v1 v2 : Value} {l1 l2 : List Int} (h1 : w.ownsRow b1 240 1 v1 l1.length (u16s l1)) (h2 : w.ownsRow b2 240 1 v2 l2.length (u16s l2)) (hl1 : l1.length ≤ 1000000) :
    Calls Tryz.prog 155 #[v1, v2] w fun e w' => e = .returned (.int .i64 (cmpU l1 l2)) ∧ w = w' := by
  obtain ⟨A1, c1, rfl, x1⟩ := u16_at h1
  obtain ⟨A2, c2, rfl, x2⟩ := u16_at h2
  have X1 := Lib.hid x1
  have X2 := Lib.hid x2
  obtain ⟨r, hr⟩ : ∃ r, cmpU l1 l2 = r := ⟨_, rfl⟩
  rw [hr]
  have HR : Hid (cmpU (l1.drop 0) (l2.drop 0) = r) := Lib.hid hr
  have HEND := Lib.hid (cmpU_end l1 l2)
  have HOUT := Lib.hid (cmpU_out l1 l2)
  have HDR := Lib.hid (cmpU_drop l1 l2)
  obtain ⟨n1, hn1⟩ : ∃ n1, l1.length = n1 := ⟨_, rfl⟩
  obtain ⟨n2, hn2⟩ : ∃ n2, l2.length = n2 := ⟨_, rfl⟩
  rw [hn1] at X1 HEND HOUT HDR hl1 ⊢
  rw [hn2] at X2 HEND HOUT HDR ⊢
  clear h1 h2 x1 x2 hr hn1 hn2
  go_enter Tryz.func155, Tryz.ntmps155
  go_wp2
  go_loopw [11] (fun i wr => ∃ k : Nat, k ≤ n1 ∧ k ≤ n2 ∧ i = .int .i64 k ∧ wr = w ∧ Hid (cmpU (l1.drop k) (l2.drop k) = r)) (fun i _ => n1 - (intOf i).toNat)
  case atStart => exact ⟨0, Nat.zero_le _, Nat.zero_le _, rfl, rfl, HR⟩
  case round =>
    obtain ⟨k, hk1, hk2, rfl, rfl, HK⟩ := hrel
    by_cases hlt : k < n1
    · have hki : (k : Int) < n1 := by omega
      obtain ⟨g1, rfl, hg1, y1⟩ := X1.out k hlt
      by_cases hlt2 : k < n2
      · have hki2 : ¬ (n2 : Int) ≤ k := by omega
        have hki3 : (k : Int) < n2 := by omega
        obtain ⟨g2, rfl, hg2, y2⟩ := X2.out k hlt2
        have HD := Lib.hid (HDR.out k hlt hlt2)
        generalize l1.getD k 0 = a at *
        generalize l2.getD k 0 = c at *
        go_wp2_with fail
        refine (cmp16_any a c wr).mono ?_
        rintro e w1 ⟨rfl, rfl⟩
        have HZ : Hid (cmpZ a c = if a < c then -1 else if c < a then 1 else 0) := Lib.hid rfl
        generalize cmpZ a c = z at *
        by_cases h1 : a < c
        · obtain rfl : z = -1 := HZ.out.trans (if_pos h1)
          have HE := Lib.hid ((HK.out.symm.trans HD.out).trans (if_pos h1))
          clear HZ h1
          go_wp2
          go_ret
          exact ⟨ret_i64 HE.out.symm, rfl⟩
        · by_cases h2 : c < a
          · obtain rfl : z = 1 := (HZ.out.trans (if_neg h1)).trans (if_pos h2)
            have HE := Lib.hid (((HK.out.symm.trans HD.out).trans (if_neg h1)).trans (if_pos h2))
            clear HZ h1 h2
            go_wp2
            go_ret
            exact ⟨ret_i64 HE.out.symm, rfl⟩
          · obtain rfl : z = 0 := (HZ.out.trans (if_neg h1)).trans (if_neg h2)
            have HE := Lib.hid ((HD.out.trans ((if_neg h1).trans (if_neg h2))).symm.trans HK.out)
            clear HZ h1 h2
            go_wp2
            go_roundw
            case rel => exact ⟨k + 1, hlt, hlt2, by go_num, trivial, HE⟩
            case measure => simp [intOf]; omega
      · have hki2 : (n2 : Int) ≤ k := by omega
        have HE := Lib.hid (HK.out.symm.trans (HOUT.out k hlt (by omega)))
        go_wp2
        go_ret
        exact ⟨ret_i64 HE.out.symm, rfl⟩
    · obtain rfl : k = n1 := by omega
      have hki : ¬ (k : Int) < k := by omega
      have HE := Lib.hid (HK.out.symm.trans (HEND.out k rfl hk2))
      by_cases h3 : k < n2
      · have h3i : (k : Int) < n2 := by omega
        have HE2 := Lib.hid (HE.out.trans (if_pos h3))
        go_wp2
        go_ret
        exact ⟨ret_i64 HE2.out.symm, rfl⟩
      · have h3i : ¬ (k : Int) < n2 := by omega
        have HE2 := Lib.hid (HE.out.trans (if_neg h3))
        go_wp2
        go_ret
        exact ⟨ret_i64 HE2.out.symm, rfl⟩
end Go.Proofs.YtiknhkkeifemcaaGreatDoor
namespace Go.Proofs.YtiknhkkeifemcaaGreatDoor
open Go.Proofs Go.Shelf
def Tryz.cloneRen : Go.Shelf.Ren := ⟨fun | 25 => 126 | n => n, fun | 9 => 9 | 3 => 3 | 4 => 4 | 5 => 5 | 37 => 22 | 0 => 0 | 47 => 242 | n => n, fun n => n⟩
theorem Tryz.cloneLaid : Go.Proofs.LaysPu.n25 Tryz.prog Tryz.cloneRen := {
  mixed := by kernel_rfl
  f25 := Tryz.func126.trans (congrArg some (by kernel_rfl))
  t0 := Tryz.underlying0
  a0 := Tryz.isAgg0
  z0 := Tryz.sizeOf0
  v0 := Tryz.zeroValue0
  i0 := by kernel_rfl
  t3 := Tryz.underlying3
  a3 := Tryz.isAgg3
  z3 := Tryz.sizeOf3
  v3 := Tryz.zeroValue3
  i3 := by kernel_rfl
  t4 := Tryz.underlying4
  a4 := Tryz.isAgg4
  z4 := Tryz.sizeOf4
  v4 := Tryz.zeroValue4
  i4 := by kernel_rfl
  t5 := Tryz.underlying5
  a5 := Tryz.isAgg5
  z5 := Tryz.sizeOf5
  v5 := Tryz.zeroValue5
  i5 := by kernel_rfl
  t9 := Tryz.underlying9
  a9 := Tryz.isAgg9
  z9 := Tryz.sizeOf9
  v9 := Tryz.zeroValue9
  i9 := by kernel_rfl
  t37 := Tryz.underlying22
  a37 := Tryz.isAgg22
  z37 := Tryz.sizeOf22
  v37 := Tryz.zeroValue22
  i37 := by kernel_rfl
  t47 := Tryz.underlying242
  a47 := Tryz.isAgg242
  z47 := Tryz.sizeOf242
  v47 := Tryz.zeroValue242
  i47 := by kernel_rfl }
open Go.ChangeShapes Go.WideShapes Go.ChangeAt Go.RowKit
theorem clone_any (s : ByteArray) (w : World) (hs : s.size ≤ 281474976710656) : Calls Tryz.prog 93 #[.string s] w fun e w' => e = .returned (.string s) ∧ Below w.heap.size w w' := by
  have h := AnyPu.stringslite_Clone Tryz.cloneLaid s w hs
  have H := Lib.hid (show Calls Tryz.prog 126 #[.string s] w _ from h)
  clear h
  go_enter Tryz.func93, Tryz.ntmps93
  go_wp2_with fail
  refine H.out.mono ?_
  rintro e w' ⟨rfl, hb⟩
  have HB := Lib.hid hb
  clear hb
  go_wp2
  go_ret
  exact ⟨rfl, HB.out⟩
end Go.Proofs.YtiknhkkeifemcaaGreatDoor
