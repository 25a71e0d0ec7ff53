/-
  The scanner's Word: do the next bytes say it? Conditions: those that each theorem names.
-/
import Derived.Test.YtneadcbadnicfaaDoorSnI
namespace Go.Proofs.YtneadcbadnicfaaDoor
open Go.ChangeShapes Go.WideShapes Go.ChangeAt Go.RowKit Go.Shelf

theorem sb_yes' {a b : ByteArray} (h : a = b) : (a.toList == b.toList) = true := by rw [h]; exact beq_self_eq_true _
theorem sb_no' {a b : ByteArray} (h : a ≠ b) : (a.toList == b.toList) = false := by
  rw [beq_eq_false_iff_ne]
  intro e
  rw [ByteArray.toList_eq, ByteArray.toList_eq] at e
  apply h
  obtain ⟨⟨a⟩⟩ := a
  obtain ⟨⟨b⟩⟩ := b
  have e2 : a = b := e
  rw [e2]
theorem strOf_bts' (s : ByteArray) : strOfNums (bts s) = s := by
  apply ByteArray.ext
  apply Array.ext'
  rw [strOfNums_data]
  unfold bts
  rw [List.map_map]
  conv => rhs; rw [← List.map_id s.data.toList]
  refine List.map_congr_left fun z _ => ?_
  show UInt8.ofNat ((z.toNat : Int)).toNat = z
  rw [Int.toNat_natCast]
  exact UInt8.ofNat_toNat
theorem strOf_iff {l : List Int} (hl : ∀ z ∈ l, 0 ≤ z ∧ z ≤ 255) (s : ByteArray) : strOfNums l = s ↔ l = bts s := by
  constructor
  · rintro rfl; exact (bts_strOf l hl).symm
  · rintro rfl; exact strOf_bts' s
/-- Do the bytes from a place on say a text? -/
def wordB (zs : List Int) (b : Nat) (t : List Int) : Bool := decide ((zs.drop b).take t.length = t)
theorem wordB_le {zs t : List Int} {b : Nat} (h : wordB zs b t = true) (hb : b ≤ zs.length) : b + t.length ≤ zs.length := by
  unfold wordB at h
  have := congrArg List.length (of_decide_eq_true h)
  simp at this
  omega
theorem part_any (p : Option Addr) (n cap a m : Nat) (zs : List Int) (hn : zs.length = n) (w : World) (hz : Bytes w p zs) (hcap : n ≤ cap) (hl : (n : Int) ≤ 9223372036854775807) (h : a + m ≤ n) :
    ∃ q, (0 < m → ∃ b off, p = some ⟨b, off, none⟩ ∧ q = some ⟨b, off + a, none⟩) ∧
      ∀ W, Calls Tryd.prog 38 #[.slice p n cap, .int .i64 (a : Nat), .int .i64 (m : Nat)] W fun e w' => e = .returned (.tuple #[.slice q m m, .bool true]) ∧ W = w' := by
  by_cases hm : 0 < m
  · obtain ⟨b, off, rfl, _⟩ := hz.2 (by rintro rfl; simp at hn; omega)
    exact ⟨some ⟨b, off + a, none⟩, fun _ => ⟨b, off, rfl, rfl⟩, fun W => part_pos b off n cap a m W hl hcap hm h⟩
  · obtain rfl : m = 0 := by omega
    have key : ∀ (q : Option Addr), (∀ W, Calls Tryd.prog 38 #[.slice p n cap, .int .i64 (a : Nat), .int .i64 (0 : Nat)] W fun e w' => e = .returned (.tuple #[.slice q 0 0, .bool true]) ∧ W = w') →
        ∃ q, (0 < 0 → ∃ b off, p = some ⟨b, off, none⟩ ∧ q = some ⟨b, off + a, none⟩) ∧ ∀ W, Calls Tryd.prog 38 #[.slice p n cap, .int .i64 (a : Nat), .int .i64 (0 : Nat)] W fun e w' => e = .returned (.tuple #[.slice q 0 0, .bool true]) ∧ W = w' :=
      fun q hq => ⟨q, fun h => absurd h (Nat.lt_irrefl _), hq⟩
    have N1 := Lib.hid (fun W => next_yes (a : Nat) 0 n W (by omega) (by omega) (by omega) (by omega) hl)
    have han : (a : Int) ≤ n := by omega
    clear hz hn h hm
    rcases p with _ | ⟨b, off, x⟩
    · refine key none fun W => ?_
      clear key
      go_enter Tryd.func38, Tryd.ntmps38
      go_wp2_with (go_at_call 54; refine (N1.out _).mono ?_; rintro e w' ⟨rfl, rfl⟩)
      go_ret2
      exact ⟨rfl, rfl⟩
    · refine key (some ⟨b, off, x⟩) fun W => ?_
      clear key
      go_enter Tryd.func38, Tryd.ntmps38
      go_wp2_with (go_at_call 54; refine (N1.out _).mono ?_; rintro e w' ⟨rfl, rfl⟩)
      go_ret2
      exact ⟨rfl, rfl⟩
theorem word_any (s mb : Nat) (p : Option Addr) (n cap K : Nat) (zs : List Int) (a : Nat) (t : ByteArray) (w : World) (ht : t.size ≤ 1000000) (h : ScSt w s mb p n cap K zs a) :
    Calls Tryd.prog 18 #[.pointer (some ⟨s, 0, none⟩), .string t] w fun e w' => e = .returned (.bool (wordB zs (runTo zs isBlank a) (bts t))) ∧
      ScTo w s mb p n cap K zs (if wordB zs (runTo zs isBlank a) (bts t) = true then runTo zs isBlank a + t.size else runTo zs isBlank a) w' := by
  have B1 := Lib.hid (sc_blank s mb p n cap K zs a w h)
  have hcap := h.cap_
  have hhigh := h.high
  have hlow := h.low
  have hlen := h.len
  have hbn : runTo zs isBlank a ≤ n := by have := runTo_le zs isBlank a (by rw [hlen]; exact h.le); omega
  have HY := Lib.hid h.by_
  have hsz := bts_length t
  clear h
  generalize runTo zs isBlank a = b at B1 hbn ⊢
  by_cases hin : b + t.size ≤ n
  · obtain ⟨q, hq, hp⟩ := part_any p n cap b t.size zs hlen w HY.out hcap (by omega) hin
    have P1 := Lib.hid hp
    obtain ⟨L, hL⟩ : ∃ L, (zs.drop b).take t.size = L := ⟨_, rfl⟩
    have hLl : L.length = t.size := by rw [← hL]; simp; omega
    have hLb : ∀ z ∈ L, 0 ≤ z ∧ z ≤ 255 := by rw [← hL]; exact fun z hz => bd_mem HY.out.1 z (List.mem_of_mem_drop (List.mem_of_mem_take hz))
    have hW : wordB zs b (bts t) = decide (strOfNums L = t) := by
      unfold wordB
      rw [hsz, hL]
      exact decide_eq_decide.2 (strOf_iff hLb t).symm
    have CV : Hid (∀ W, Bytes W p zs → ∀ c, (convert 22 9 (.slice q t.size c)).run Tryd.prog W = .ok (.string (strOfNums L)) W) := by
      intro W hz c
      have hb : Bytes W q L := by
        refine ⟨bd_le hLb, fun hne => ?_⟩
        have h0 : 0 < t.size := by rw [← hLl]; exact List.length_pos_iff.2 hne
        obtain ⟨b', off, e1, e2⟩ := hq h0
        obtain ⟨b2, off2, e3, hlt, hc⟩ := hz.2 (by intro e; rw [e] at hlen; simp at hlen; omega)
        rw [e1] at e3
        injection e3 with e3
        injection e3 with e4 e5 _
        subst e4 e5
        refine ⟨b', off + b, e2, hlt, fun i hi => ?_⟩
        have := hc (b + i) (by omega)
        rw [Nat.add_assoc, this, ← hL, getD_take (by omega)]
      have := conv_slice hb c
      rw [hLl] at this
      exact this
    rw [hW]
    clear hW hL hLl hLb hq hp hsz HY hlen
    generalize strOfNums L = S at CV ⊢
    by_cases hS : S = t
    · subst hS
      rw [decide_eq_true rfl, if_pos rfl]
      have b1 := sb_yes' (rfl : S = S)
      go_enter Tryd.func18, Tryd.ntmps18
      go_wp2_with fail
      refine B1.out.mono ?_
      rintro e w1 ⟨rfl, h1⟩
      have H1 := Lib.hid h1
      obtain ⟨hs, c0, c1, c2, f0, f1, f2⟩ := blk3 h1.2.blk
      have cv : ∀ c nq, (convert 22 9 (.slice q S.size c)).run Tryd.prog (w1.drewN nq) = .ok (.string S) (w1.drewN nq) := fun c nq => CV.out _ (h1.2.by_.below (Nat.le_refl _) (bel_drewN (Below.refl _ _) nq)) c
      clear h1
      go_wp2
      go_quiet (first | (go_at_call 38; exact quiet_same (P1.out _)))
      go_wp2_with fail
      refine (take_any s mb _ n cap K zs b S.size _ (H1.out.bel (bel_drewN (Below.refl _ _) _)).2 hin).mono ?_
      rintro e w3 ⟨rfl, h3⟩
      have H3 := Lib.hid h3
      clear h3
      go_wp2
      go_ret
      exact ⟨rfl, (H1.out.bel (bel_drewN (Below.refl _ _) _)).then H3.out⟩
    · rw [decide_eq_false hS, if_neg (by decide)]
      have b1 := sb_no' hS
      clear hS
      go_enter Tryd.func18, Tryd.ntmps18
      go_wp2_with fail
      refine B1.out.mono ?_
      rintro e w1 ⟨rfl, h1⟩
      have H1 := Lib.hid h1
      obtain ⟨hs, c0, c1, c2, f0, f1, f2⟩ := blk3 h1.2.blk
      have cv : ∀ c nq, (convert 22 9 (.slice q t.size c)).run Tryd.prog (w1.drewN nq) = .ok (.string S) (w1.drewN nq) := fun c nq => CV.out _ (h1.2.by_.below (Nat.le_refl _) (bel_drewN (Below.refl _ _) nq)) c
      clear h1
      go_wp2
      go_quiet (first | (go_at_call 38; exact quiet_same (P1.out _)))
      go_wp2
      go_ret
      exact ⟨rfl, H1.out.bel (bel_drewN (Below.refl _ _) _)⟩
  · have hW : wordB zs b (bts t) = false := by
      cases hw : wordB zs b (bts t)
      · rfl
      · have := wordB_le hw (by omega); omega
    rw [hW, if_neg (by decide)]
    have P1 := Lib.hid (fun W => part_no p n cap (b : Nat) (t.size : Nat) W (by omega) (.inr (.inr (.inr (by omega)))))
    clear hW hsz HY hlen
    go_enter Tryd.func18, Tryd.ntmps18
    go_wp2_with fail
    refine B1.out.mono ?_
    rintro e w1 ⟨rfl, h1⟩
    have H1 := Lib.hid h1
    obtain ⟨hs, c0, c1, c2, f0, f1, f2⟩ := blk3 h1.2.blk
    clear h1
    go_wp2
    go_quiet (first | (go_at_call 38; exact quiet_same (P1.out _)))
    go_wp2
    go_ret
    exact ⟨rfl, H1.out.bel (bel_drewN (Below.refl _ _) _)⟩
end Go.Proofs.YtneadcbadnicfaaDoor
