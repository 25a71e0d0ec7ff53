/-
  Units of four digits, plain: what the text in quotes of one unit, or of two, means. No run of the program stands in this text. Conditions: those that each theorem names.
-/
import Derived.Test.YtneadcbadnicfaaDoorSnP
namespace Go.Proofs.YtneadcbadnicfaaDoor
open Go.RowKit Go.Lib

/-- Digits that say k, each as one byte. -/
def Digs (d : Int → Int) : Prop := ∀ k, 0 ≤ k → k < 16 → hexU (d k) = some k.toNat
def uD (d : Int → Int) (n : Int) : List Int := [92, 117, d (n / 4096 % 16), d (n / 256 % 16), d (n / 16 % 16), d (n % 16)]
theorem hexsU_four {a b c e : Int} {x y z u : Nat} (h1 : hexU a = some x) (h2 : hexU b = some y) (h3 : hexU c = some z) (h4 : hexU e = some u) : hexsU [a, b, c, e] 0 = some (((x * 16 + y) * 16 + z) * 16 + u) := by
  simp only [hexsU, h1, h2, h3, h4]
  congr 1
  omega
theorem unit_of {d : Int → Int} (hd : Digs d) {n : Int} (h0 : 0 ≤ n) (h1 : n ≤ 65535) : hexsU [d (n / 4096 % 16), d (n / 256 % 16), d (n / 16 % 16), d (n % 16)] 0 = some n.toNat := by
  rw [hexsU_four (hd _ (by omega) (by omega)) (hd _ (by omega) (by omega)) (hd _ (by omega) (by omega)) (hd _ (by omega) (by omega))]
  congr 1
  omega
theorem st_at {zs : List Int} {c : Int} {i : Nat} (hi : i < zs.length) (h : zs.getD i 0 = c) : stA zs (isC c) i = true := by
  rw [stA_of hi]
  unfold isC
  exact decide_eq_true h
theorem st_no {zs : List Int} {c : Int} {i : Nat} (h : zs.getD i 0 ≠ c ∨ zs.length ≤ i) : stA zs (isC c) i = false := by
  by_cases hi : i < zs.length
  · rw [stA_of hi]
    unfold isC
    rcases h with h | h
    · exact decide_eq_false h
    · omega
  · exact stA_ge (by omega)
theorem txtAt_q (zs : List Int) (r : List Int) (h : zs = 34 :: r) : txtAt zs 0 = txtGo zs 1 [] := by
  subst h
  have e : runTo (34 :: r) isBlank 0 = 0 := runTo_stop (by rw [stA_of (by simp)]; rfl)
  rw [txtAt_yes (by rw [e]; exact st_at (by simp) rfl), e]
theorem one_abs {zs : List Int} (hb : ∀ i, 0 ≤ zs.getD i 0 ∧ zs.getD i 0 ≤ 255) (n : Nat) (h0 : txtAt zs 0 = txtGo zs 1 []) (h1 : stA zs (isC 34) 1 = false) (h2 : stA zs (isC 92) 1 = true) (h3 : stA zs (isC 117) 2 = true) (hu : unitAt zs 3 = some n) (h4 : stA zs (isC 92) 7 = false) (h5 : stA zs (isC 34) 7 = true) :
    txtAt zs 0 = if n < 55296 ∨ 57343 < n then some (enc n, 8) else none := by
  have hs : sgnAt zs 1 = if n < 55296 ∨ 57343 < n then some (n, 7) else none := by
    unfold sgnAt escAt unitsAt
    rw [if_pos h2, if_pos h3, hu]
    simp only
    by_cases c1 : n < 55296 ∨ 57343 < n
    · rw [if_pos c1, if_pos c1]
    · rw [if_neg c1, if_neg c1]
      by_cases c2 : 56320 ≤ n
      · rw [if_pos c2]
      · rw [if_neg c2, if_neg (fun h => by rw [show 1 + 1 + 1 + 4 = 7 from rfl, h4] at h; cases h.1)]
  rw [h0]
  by_cases c1 : n < 55296 ∨ 57343 < n
  · rw [if_pos c1] at hs ⊢
    rw [txtGo_step hb h1 hs, txtGo_end h5]
    rfl
  · rw [if_neg c1] at hs ⊢
    exact txtGo_no h1 hs
theorem two_abs {zs : List Int} (hb : ∀ i, 0 ≤ zs.getD i 0 ∧ zs.getD i 0 ≤ 255) (p q n : Nat) (hp0 : 55296 ≤ p) (hp1 : p < 56320) (hq0 : 56320 ≤ q) (hq1 : q ≤ 57343) (hn : 65536 + (p - 55296) * 1024 + (q - 56320) = n) (h0 : txtAt zs 0 = txtGo zs 1 []) (h1 : stA zs (isC 34) 1 = false) (h2 : stA zs (isC 92) 1 = true) (h3 : stA zs (isC 117) 2 = true) (hu : unitAt zs 3 = some p)
    (h4 : stA zs (isC 92) 7 = true) (h5 : stA zs (isC 117) 8 = true) (hv : unitAt zs 9 = some q) (h6 : stA zs (isC 34) 13 = true) : txtAt zs 0 = some (enc n, 14) := by
  have hs : sgnAt zs 1 = some (n, 13) := by
    unfold sgnAt escAt unitsAt
    rw [if_pos h2, if_pos h3, hu]
    simp only
    rw [if_neg (by omega), if_neg (by omega), if_pos ⟨h4, h5⟩, hv]
    simp only
    rw [if_neg (by omega), hn]
  rw [h0, txtGo_step hb h1 hs, txtGo_end h6]
  rfl
/-- A text of one unit. -/
theorem one_unit {d : Int → Int} (hd : Digs d) (n : Int) (h0 : 0 ≤ n) (h1 : n ≤ 65535) (hb : ∀ i, 0 ≤ ([34] ++ uD d n ++ [34]).getD i 0 ∧ ([34] ++ uD d n ++ [34]).getD i 0 ≤ 255) :
    txtAt ([34] ++ uD d n ++ [34]) 0 = if n.toNat < 55296 ∨ 57343 < n.toNat then some (enc n.toNat, 8) else none := by
  refine one_abs hb n.toNat (txtAt_q ([34] ++ uD d n ++ [34]) (uD d n ++ [34]) rfl) (st_no (.inl ?_)) (st_at ?_ rfl) (st_at ?_ rfl) ?_ (st_no (.inl ?_)) (st_at ?_ rfl)
  · show (92 : Int) ≠ 34; decide
  · show 1 < 8; decide
  · show 2 < 8; decide
  · unfold unitAt
    exact (if_pos (show 3 + 4 ≤ 8 by decide)).trans (unit_of hd h0 h1)
  · show (34 : Int) ≠ 92; decide
  · show 7 < 8; decide
/-- A text of two units. -/
theorem two_units {d : Int → Int} (hd : Digs d) (n : Int) (h0 : 65536 ≤ n) (h1 : n ≤ 1114111) (hb : ∀ i, 0 ≤ ([34] ++ (uD d (55296 + (n - 65536) / 1024) ++ uD d (56320 + (n - 65536) % 1024)) ++ [34]).getD i 0 ∧ ([34] ++ (uD d (55296 + (n - 65536) / 1024) ++ uD d (56320 + (n - 65536) % 1024)) ++ [34]).getD i 0 ≤ 255) :
    txtAt ([34] ++ (uD d (55296 + (n - 65536) / 1024) ++ uD d (56320 + (n - 65536) % 1024)) ++ [34]) 0 = some (enc n.toNat, 14) := by
  obtain ⟨p, hp⟩ : ∃ p, 55296 + (n - 65536) / 1024 = p := ⟨_, rfl⟩
  obtain ⟨q, hq⟩ : ∃ q, 56320 + (n - 65536) % 1024 = q := ⟨_, rfl⟩
  rw [hp, hq] at hb ⊢
  refine two_abs hb p.toNat q.toNat n.toNat (by omega) (by omega) (by omega) (by omega) (by omega) (txtAt_q ([34] ++ (uD d p ++ uD d q) ++ [34]) (uD d p ++ uD d q ++ [34]) rfl) (st_no (.inl ?_)) (st_at ?_ rfl) (st_at ?_ rfl) ?_ (st_at ?_ rfl) (st_at ?_ rfl) ?_ (st_at ?_ rfl)
  · show (92 : Int) ≠ 34; decide
  · show 1 < 14; decide
  · show 2 < 14; decide
  · unfold unitAt
    exact (if_pos (show 3 + 4 ≤ 14 by decide)).trans (unit_of hd (by omega) (by omega))
  · show 7 < 14; decide
  · show 8 < 14; decide
  · unfold unitAt
    exact (if_pos (show 9 + 4 ≤ 14 by decide)).trans (unit_of hd (by omega) (by omega))
  · show 13 < 14; decide
end Go.Proofs.YtneadcbadnicfaaDoor
