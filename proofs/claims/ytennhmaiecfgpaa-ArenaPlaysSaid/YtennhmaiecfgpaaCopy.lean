/-
  A copy into a row of bytes of the call's own; the string of a slice of bytes, of the call's own or one that came in. Conditions: those that each theorem names.
-/
import Derived.Test.YtennhmaiecfgpaaStore
import Derived.Test.YtennhmaiecfgpaaQuiet
import Derived.Laws.CopyOwn
namespace Go.Proofs.Ytennhmaiecfgpaa
open Go.ChangeShapes Go.WideShapes Go.ChangeAt Go.RowKit

theorem OwnR.opened {w : World} {base : Nat} {e : TypeId} {g n cap : Nat} {zs : List Int} (h : OwnR w base e g n cap zs) :
    ∃ cur : List Value, w.heap[g]? = some (.cells cur.toArray e (0, 0)) ∧ base ≤ g ∧ n ≤ cap ∧ cap ≤ maxLen ∧ cur.length = cap ∧ cur.take n = u8s zs ∧ zs.length = n := by
  have hl : zs.length = n := by have := h.1; simpa [u8s] using this
  obtain ⟨_, h'⟩ := h
  rcases h' with ⟨hv, _⟩ | ⟨g', cap', cur, hv, hb, hg, hn, hm, hs, ht⟩
  · cases hv
  · cases hv
    exact ⟨cur.toList, by simpa using hg, hb, hn, hm, by simpa using hs, by simpa using ht, hl⟩
theorem splice_get (L cs : List Int) (off j : Nat) (h : off + cs.length ≤ L.length) : (splice L off cs).getD j 0 = if off ≤ j ∧ j < off + cs.length then cs.getD (j - off) 0 else L.getD j 0 := by
  unfold splice
  simp only [List.getD]
  have hoff : (L.take off).length = off := by simp; omega
  by_cases h1 : j < off
  · rw [if_neg (by omega), List.getElem?_append_left (by omega), List.getElem?_take, if_pos h1]
  · rw [List.getElem?_append_right (by omega), hoff]
    by_cases h2 : j < off + cs.length
    · rw [if_pos (by omega), List.getElem?_append_left (by omega)]
    · rw [if_neg (by omega), List.getElem?_append_right (by omega), List.getElem?_drop]
      congr 2
      omega
theorem getD_ext {xs ys : List Int} (hl : xs.length = ys.length) (h : ∀ j, j < xs.length → xs.getD j 0 = ys.getD j 0) : xs = ys := by
  apply List.ext_getElem hl
  intro j h1 h2
  have := h j h1
  simpa [List.getD, h1, h2] using this
theorem splice_laid (bs : List Int) (a s : Nat) (n : Int) (h : a + s ≤ bs.length) : splice bs a (laidOver (zeros s) 0 n s) = laidOver bs a n s := by
  have hz : (laidOver (zeros s) 0 n s).length = s := by rw [laidOver_length]; simp [zeros]
  apply getD_ext
  · rw [length_splice _ _ _ (by rw [hz]; exact h), laidOver_length]
  · intro j _
    rw [splice_get _ _ _ _ (by rw [hz]; exact h), laidOver_get bs a n s j h, hz]
    by_cases hj : a ≤ j ∧ j < a + s
    · rw [if_pos hj, if_pos hj, laidOver_get (zeros s) 0 n s (j - a) (by simp [zeros]), if_pos (by omega)]
      rfl
    · rw [if_neg hj, if_neg hj]
theorem u8s_splice (L cs : List Int) (off : Nat) : u8s (splice L off cs) = splice (u8s L) off (u8s cs) := by
  simp [splice, u8s, List.map_take, List.map_drop]
theorem take_splice {α : Type} (L cs : List α) (off n : Nat) (h : off + cs.length ≤ n) (hn : n ≤ L.length) : (splice L off cs).take n = splice (L.take n) off cs := by
  unfold splice
  have hoff : (L.take off).length = off := by simp; omega
  rw [List.take_append, hoff, List.take_append, List.take_of_length_le (l := L.take off) (by omega), List.take_of_length_le (l := cs) (by omega)]
  congr 1
  · rw [List.take_take, Nat.min_eq_left (by omega)]
  · congr 1
    rw [List.take_drop]
    congr 1
    congr 1
    omega
theorem ownR_of_splice {w' : World} {base : Nat} {e : TypeId} {g n cap : Nat} {zs news : List Int} {cur : List Value} {a : Nat}
    (hb : base ≤ g) (hn : n ≤ cap) (hm : cap ≤ maxLen) (hc : cur.length = cap) (ht : cur.take n = u8s zs) (hl : zs.length = n) (hfit : a + news.length ≤ n)
    (hg : w'.heap[g]? = some (.cells (splice cur a (u8s news)).toArray e (0, 0))) : OwnR w' base e g n cap (splice zs a news) := by
  have hul : (u8s news).length = news.length := by simp [u8s]
  refine ⟨by simp only [u8s, List.length_map, Nat.mul_one]; rw [length_splice _ _ _ (by omega), hl], .inr ⟨g, cap, _, rfl, hb, hg, hn, hm, ?_, ?_⟩⟩
  · simp only [List.size_toArray, Nat.mul_one]
    rw [length_splice _ _ _ (by omega), hc]
  · rw [Nat.mul_one, u8s_splice, ← ht]
    exact take_splice cur (u8s news) a n (by omega) (by omega)

/-- The string of a row of the call's own. -/
theorem OwnR.str {P : Program} {w : World} {base : Nat} {e : TypeId} {g n cap : Nat} {zs : List Int} (h : OwnR w base e g n cap zs) (t d : TypeId) (ht : P.underlying t = some (.slice e)) (he : P.underlying e = some (.int .u8)) (hd : P.underlying d = some .string) :
    (convert t d (.slice (some ⟨g, 0, none⟩) n cap)).run P w = .ok (.string (strOfNums zs)) w := by
  obtain ⟨hl, _, _, _, _, hc, _⟩ := h.facts
  exact run_convert_bytes_arg (P := P) w t e ht he g 0 n cap zs hl (fun i hi => by rw [Nat.zero_add]; exact hc i (by omega)) d hd
/-- The string of a slice that came in. -/
theorem IsRow.str {P : Program} {w w' : World} {a : Option Addr} {len cap : Nat} {zs : List Int} {e : TypeId} (h : IsRow .u8 w a len cap zs) (hb : Below w.heap.size w w') (t d : TypeId) (ht : P.underlying t = some (.slice e)) (he : P.underlying e = some (.int .u8)) (hd : P.underlying d = some .string) :
    (convert t d (.slice a len cap)).run P w' = .ok (.string (strOfNums (zs.take len))) w' := by
  by_cases h0 : len = 0
  · subst h0
    rw [List.take_zero]
    exact conv_zero w' t e d ht he hd a cap
  · obtain ⟨hl, _, hz, _, hp⟩ := h
    obtain ⟨b, off, rfl, hlt, hc⟩ := hp (by rintro rfl; simp at hz; omega)
    refine run_convert_bytes_arg (P := P) w' t e ht he b off len cap _ (by simp; omega) (fun i hi => ?_) d hd
    rw [(hb.cell (p := ⟨b, off + i, none⟩) hlt).trans (hc i (by omega))]
    simp [List.getD, hi]
/-- A row of the call's own is kept where its block is. -/
theorem OwnR.of_block {w w' : World} {base : Nat} {e : TypeId} {g n cap : Nat} {zs : List Int} (h : OwnR w base e g n cap zs) (hb : w'.heap[g]? = w.heap[g]?) : OwnR w' base e g n cap zs := by
  obtain ⟨hl, h'⟩ := h
  refine ⟨hl, ?_⟩
  rcases h' with h1 | ⟨g', cap', cur, hv, h1, hg, h2⟩
  · exact .inl h1
  · cases hv
    exact .inr ⟨g, cap, cur, rfl, h1, hb.trans hg, h2⟩
theorem OwnR.below {w w' : World} {base B : Nat} {e : TypeId} {g n cap : Nat} {zs : List Int} (h : OwnR w base e g n cap zs) (hb : Below B w w') (hg : g < B) : OwnR w' base e g n cap zs := h.of_block (hb.block g hg)
theorem OwnR.grown {w w' : World} {base : Nat} {row : Option Nat} {e : TypeId} {g n cap : Nat} {zs : List Int} (h : OwnR w base e g n cap zs) (hb : w.grownBy w' row) (hg : some g ≠ row) : OwnR w' base e g n cap zs := h.of_block (hb.block g h.facts.2.2.1 hg)
/-- The string of some bytes of a row of the call's own. -/
theorem OwnR.part {P : Program} {w w' : World} {base : Nat} {e : TypeId} {g n cap : Nat} {zs : List Int} (h : OwnR w base e g n cap zs) (hw : ∀ i, w'.cell? ⟨g, i, none⟩ = w.cell? ⟨g, i, none⟩) (t d : TypeId) (ht : P.underlying t = some (.slice e)) (he : P.underlying e = some (.int .u8)) (hd : P.underlying d = some .string)
    (k m c : Nat) (hfit : k + m ≤ n) : (convert t d (.slice (some ⟨g, k, none⟩) m c)).run P w' = .ok (.string (strOfNums ((zs.drop k).take m))) w' := by
  obtain ⟨hl, _, _, _, _, hc, _⟩ := h.facts
  refine run_convert_bytes_arg (P := P) w' t e ht he g k m c _ (by simp; omega) (fun i hi => ?_) d hd
  rw [hw, hc (k + i) (by omega)]
  simp [List.getD, hi]
/-- The string of some bytes of a slice that came in. -/
theorem IsRow.part {P : Program} {w w' : World} {b off len cap : Nat} {zs : List Int} {e : TypeId} (h : IsRow .u8 w (some ⟨b, off, none⟩) len cap zs) (hb : Below w.heap.size w w') (t d : TypeId) (ht : P.underlying t = some (.slice e)) (he : P.underlying e = some (.int .u8)) (hd : P.underlying d = some .string)
    (k m c : Nat) (hfit : k + m ≤ len) : (convert t d (.slice (some ⟨b, off + k, none⟩) m c)).run P w' = .ok (.string (strOfNums (((zs.take len).drop k).take m))) w' := by
  obtain ⟨hl, _, hz, _, hp⟩ := h
  refine run_convert_bytes_arg (P := P) w' t e ht he b (off + k) m c _ (by simp; omega) (fun i hi => ?_) d hd
  obtain ⟨b', off', he', hlt, hc⟩ := hp (by rintro rfl; simp at hz; omega)
  cases he'
  rw [Nat.add_assoc, (hb.cell (p := ⟨b, off + (k + i), none⟩) hlt).trans (hc (k + i) (by omega))]
  have h1 : k + i < len := by omega
  simp [List.getD, hi, h1]
theorem laid_src {w : World} {base : Nat} {e : TypeId} {g n cap : Nat} {zs : List Int} (h : OwnR w base e g n cap zs) : ∀ j v, (u8s zs)[j]? = some v → w.cell? ((⟨g, 0, none⟩ : Addr).add j) = some v := by
  intro j v hv
  obtain ⟨hl, _, _, _, _, hc, _⟩ := h.facts
  have hj : j < zs.length := by
    have := (List.getElem?_eq_some_iff.1 hv).1
    simpa [u8s] using this
  rw [Go.WideShapes.add_plain, Nat.zero_add, hc j hj]
  simpa [u8s, List.getD, hj] using hv
theorem u8s_one (zs : List Int) : ∀ v ∈ u8s zs, v.oneCell' = true := by
  intro v hv
  obtain ⟨z, _, rfl⟩ := List.mem_map.1 hv
  rfl
theorem u8_size : (Try.prog.info? 5).map (·.size) = some 1 := by kernel_rfl
theorem laid_len (s : Nat) (n : Int) : (u8s (laidOver (zeros s) 0 n s)).length = s := by simp [u8s, laidOver_length, zeros]
/-- The document's bytes of a number copied into a row of the call's own. -/
theorem copy_laid {w w4 : World} {base B g2 len c2 gP a s ty : Nat} {bs : List Int} {n : Int} (h : OwnR w base 5 g2 len c2 bs) (hb : Below w.heap.size w w4) (hP : OwnR w4 B 5 gP s s (laidOver (zeros s) 0 n s)) (hfit : a + s ≤ len) :
    ∃ w5, (Builtin.copy_ #[26, 26] ty #[.slice (some ⟨g2, a, none⟩) (len - a) (c2 - a), .slice (some ⟨gP, 0, none⟩) s s]).run Try.prog w4 = .ok (goInt s) w5 ∧ OwnR w5 base 5 g2 len c2 (laidOver bs a n s) ∧ Below base w4 w5 ∧ Below g2 w4 w5 := by
  obtain ⟨cur, hg, hbg, hn, hm, hc, ht, hl⟩ := h.opened
  have hlt : g2 < w.heap.size := h.facts.2.2.1
  have hg4 : w4.heap[g2]? = some (.cells cur.toArray 5 (0, 0)) := (hb.block g2 hlt).trans hg
  have hcs : (u8s (laidOver (zeros s) 0 n s)).length = s := laid_len s n
  have hrun := run_copy_row (P := Try.prog) w4 26 26 ty 5 g2 a (len - a) (c2 - a) ⟨gP, 0, none⟩ s s cur.toArray 5 (u8s (laidOver (zeros s) 0 n s)) Try.underlying26 u8_size hg4 (by rw [hcs]; exact (Nat.min_eq_left (by omega)).symm) (laid_src hP) (by rw [hcs]; simp; omega) (u8s_one _)
  rw [hcs] at hrun
  refine ⟨_, hrun, ?_, below_setRow (Below.refl _ _) hbg _, below_setRow (Below.refl _ _) (Nat.le_refl _) _⟩
  have := ownR_of_splice (w' := w4.setRow g2 (splice cur a (u8s (laidOver (zeros s) 0 n s))).toArray) (base := base) (e := 5) (g := g2) (n := len) (cap := c2) (zs := bs) (news := laidOver (zeros s) 0 n s) (cur := cur) (a := a) hbg hn hm hc ht hl (by rw [laidOver_length]; simp [zeros]; omega) (setRow_heap w4 g2 _ _ 5 _ hg4)
  rw [splice_laid bs a s n (by omega)] at this
  simpa [splice, hcs] using this
end Go.Proofs.Ytennhmaiecfgpaa
