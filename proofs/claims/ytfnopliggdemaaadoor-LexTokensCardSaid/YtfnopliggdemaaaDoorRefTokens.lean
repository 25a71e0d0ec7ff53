/-
  The document's own Tokens: all tokens of a text, or the first fault's number and its place. Conditions: those that each theorem names; the library's tables hold what the row lists.
-/
import Derived.Test.YtfnopliggdemaaaDoorRefOneSign
import Derived.Test.YtfnopliggdemaaaDoorBehind
namespace Go.Proofs.YtfnopliggdemaaaDoor
open Go.ChangeShapes Go.WideShapes Go.ChangeAt Go.RowKit Go.Shelf

/-- What the document's Tokens hands back. -/
def RefPost (base : Nat) (w : World) (r : List Tok × Int × Nat) (e : Ending) (w' : World) : Prop :=
  ∃ v, e = .returned (.tuple #[v, .int .i64 r.2.1, .int .i64 (r.2.2 : Nat)]) ∧ OwnT w' base v r.1 ∧ Below base w w'
theorem refPost_fault {base : Nat} {w w' : World} {r : List Tok × Int × Nat} {code : Int} {j : Nat} (hr : r = ([], code, j)) (hb : Below base w w') : RefPost base w r (.returned (.tuple #[.slice none 0 0, .int .i64 code, .int .i64 (j : Nat)])) w' := by
  subst hr
  exact ⟨_, rfl, ownT_nil _ _, hb⟩
theorem refPost_end {base : Nat} {w w' : World} {r : List Tok × Int × Nat} {v : Value} {l : List Tok} (hr : r = (l, 0, 0)) (ho : OwnT w' base v l) (hb : Below base w w') : RefPost base w r (.returned (.tuple #[v, .int .i64 0, .int .i64 0])) w' := by
  subst hr
  exact ⟨_, rfl, ho, hb⟩
theorem refTokens_long (s sg : ByteArray) (w : World) (hs : s.size ≤ 9223372036854775807) (h : 8192 < s.size) :
    Calls Tryd.prog 10 #[.string s, .string sg] w fun e w' => e = .returned (.tuple #[.slice none 0 0, .int .i64 16, .int .i64 8192]) ∧ w = w' := by
  go_enter Tryd.func10, Tryd.ntmps10
  go_wp2
  exact bodyPost_ret (v := .tuple #[.slice none 0 0, .int .i64 16, .int .i64 8192]) (by simp [results, Tryd.results10, go_sem]) rfl ⟨rfl, rfl⟩
set_option maxHeartbeats 1600000 in
set_option maxRecDepth 100000 in
theorem refTokens_short (s sg : ByteArray) (w : World) (hT : Tabs w) (h : s.size ≤ 8192) (hg : sg.size ≤ 9223372036854775807) :
    Calls Tryd.prog 10 #[.string s, .string sg] w (RefPost w.heap.size w (lexFrom s sg 0 [])) := by
  have HGAP := Lib.hid (fun (j : Nat) W hj => behind_any s j j W rfl (by omega) hj)
  have HTOK := Lib.hid (fun (j : Nat) W (hb : Below w.heap.size w W) hj => one_any s sg j j W (Tabs.below hT (Nat.le_refl _) hb) rfl hj (by omega) hg)
  clear hT
  go_enter Tryd.func10, Tryd.ntmps10
  go_wp2
  go_loopw [7, 8] (fun lv at' wr => Below w.heap.size w wr ∧ ∃ (j : Nat) (l : List Tok), j ≤ s.size ∧ at' = .int .i64 j ∧ OwnT wr w.heap.size lv l ∧ l.length ≤ 2048 ∧ lexFrom s sg 0 [] = lexFrom s sg j l) (fun lv _ _ => 2048 - lenOf lv)
  case atStart => exact ⟨Below.refl _ _, 0, [], Nat.zero_le _, rfl, ownT_nil _ _, by decide, rfl⟩
  case round =>
    obtain ⟨hb, j, l, hj, rfl, ho, hll, hr⟩ := hrel
    obtain ⟨a, c, rfl⟩ := ho.form
    have HB := Lib.hid hb
    have HJ := Lib.hid hr
    have HO := Lib.hid ho
    have hg1 := gap_le (bts s) j (by rw [bts_length]; exact hj)
    rw [bts_length] at hg1
    clear hb hr ho
    by_cases h2 : l.length = 2048
    · have HM := Lib.hid (lexFrom_many (s := s) (sg := sg) (j := j) h2)
      go_wp2_with fail
      refine (HGAP.out j _ hj).mono ?_
      rintro e W1 ⟨rfl, rfl⟩
      have t2 : ((l.length : Int) == 2048) = true := by simp; omega
      clear h2
      go_wp2
      exact bodyPost_ret (v := .tuple #[.slice none 0 0, .int .i64 16, .int .i64 (gap (bts s) j : Nat)]) (by simp [results, Tryd.results10, go_sem]) rfl (refPost_fault (HJ.out.trans HM.out) HB.out)
    · have HM := Lib.hid (lexFrom_step (s := s) (sg := sg) (j := j) (l := l) (by omega))
      have t2 : ((l.length : Int) == 2048) = false := by simp; omega
      go_wp2_with fail
      refine (HGAP.out j _ hj).mono ?_
      rintro e W1 ⟨rfl, rfl⟩
      generalize gap (bts s) j = k at hg1 HM ⊢
      go_wp2_with fail
      refine (HTOK.out k _ HB.out hg1).mono ?_
      rintro e W3 ⟨hone, hb3⟩
      have HB3 := Lib.hid (HB.out.trans (hb3.mono HB.out.size))
      have HO3 := Lib.hid (HO.out.below hb3 (Nat.le_refl _))
      clear hb3
      generalize hq : tok okU (amg sg) (bts s) k = q at HM hone ⊢
      obtain _ | ⟨t, e2⟩ := q
      · clear hq
        obtain ⟨x0, x2, x3, S, rfl⟩ := hone
        go_wp2
        exact bodyPost_ret (v := .tuple #[.slice none 0 0, .int .i64 10, .int .i64 (k : Nat)]) (by simp [results, Tryd.results10, go_sem]) rfl (refPost_fault (HJ.out.trans HM.out) (HB3.out.alloc HB3.out.size _))
      · have he2 := tok_le (by rw [bts_length]; exact hg1) hq
        rw [bts_length] at he2
        obtain rfl := hone
        obtain ⟨i0, hi0, hz0, hz1, hz2⟩ := info_parts tok_info
        have I1 := Lib.hid hi0
        have I2 := Lib.hid hz0
        have I3 := Lib.hid hz1
        have I4 := Lib.hid hz2
        clear hq hi0 hz0 hz1 hz2
        by_cases hkd : t.kind = 0
        · have tk : (t.kind == 0) = true := by simp [hkd]
          have HE := Lib.hid (HM.out.trans (if_pos hkd))
          clear hkd
          go_wp2_with (at_builtin; refine wpList_append_own _ rfl (.tmp 33) (.tmp 35) 24 rfl w.heap.size 45 i0 _ 3 32 Tryd.underlying24 I1.out I2.out I3.out I4.out rfl (by decide) _ l.length (toksCells l) rfl (HO3.out.below (((Below.refl W3.heap.size W3).alloc (Nat.le_refl _) _).alloc (by simp) _) (Nat.le_refl _)) ⟨W3.heap.size + 1, 0, none⟩ 1 1 (tokCells t) rfl rfl (tokCells_new _ t _ (by simp)) (tokCells_one t) (by unfold maxLen; omega) (by omega) (by have := HB3.out.size; simp; omega) ?_; intro v4 W4 hown4 hg4 hx; clear hx; obtain ⟨kk, hb4⟩ := grown_new HO3.out HB3.out hg4; have HB4 := Lib.hid hb4; have HO4 := Lib.hid (OwnT.snoc hown4); clear hown4 hg4 hb4)
          exact bodyPost_ret (v := .tuple #[v4, .int .i64 0, .int .i64 0]) (by simp [results, Tryd.results10, go_sem]) rfl (refPost_end (HJ.out.trans HE.out) HO4.out HB4.out)
        · have tk : (t.kind == 0) = false := by simp [hkd]
          have HE := Lib.hid (HM.out.trans (if_neg hkd))
          clear hkd
          go_wp2_with (at_builtin; refine wpList_append_own _ rfl (.tmp 33) (.tmp 35) 24 rfl w.heap.size 45 i0 _ 3 32 Tryd.underlying24 I1.out I2.out I3.out I4.out rfl (by decide) _ l.length (toksCells l) rfl (HO3.out.below (((Below.refl W3.heap.size W3).alloc (Nat.le_refl _) _).alloc (by simp) _) (Nat.le_refl _)) ⟨W3.heap.size + 1, 0, none⟩ 1 1 (tokCells t) rfl rfl (tokCells_new _ t _ (by simp)) (tokCells_one t) (by unfold maxLen; omega) (by omega) (by have := HB3.out.size; simp; omega) ?_; intro v4 W4 hown4 hg4 hx; clear hx; obtain ⟨kk, hb4⟩ := grown_new HO3.out HB3.out hg4; have HB4 := Lib.hid hb4; have HO4 := Lib.hid (OwnT.snoc hown4); clear hown4 hg4 hb4)
          obtain ⟨a4, c4, rfl⟩ := HO4.out.form
          go_roundw
          case rel => exact ⟨HB4.out, e2, l ++ [t], he2, rfl, HO4.out, by simp; omega, HJ.out.trans HE.out⟩
          case measure => simp [lenOf]; omega
/-- The document's own Tokens, whatever the text. -/
theorem refTokens_any (s sg : ByteArray) (w : World) (hT : Tabs w) (hs : s.size ≤ 9223372036854775807) (hg : sg.size ≤ 9223372036854775807) :
    Calls Tryd.prog 10 #[.string s, .string sg] w (RefPost w.heap.size w (toks okU (amg sg) (bts s))) := by
  unfold toks
  rw [bts_length]
  by_cases h : 8192 < s.size
  · rw [if_pos h]
    exact (refTokens_long s sg w hs h).mono fun e w' ⟨he, hb⟩ => by rw [he]; exact refPost_fault rfl (hb ▸ Below.refl _ _)
  · rw [if_neg h]
    exact refTokens_short s sg w hT (by omega) hg
end Go.Proofs.YtfnopliggdemaaaDoor
