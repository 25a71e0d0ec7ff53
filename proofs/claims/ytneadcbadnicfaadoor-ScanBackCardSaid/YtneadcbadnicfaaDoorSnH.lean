/-
  The scanner's Text: the text in quotes at its place is the plain one; what it means lies in a row of its own. Condition: the library's tables hold what the row lists.
-/
import Derived.Test.YtneadcbadnicfaaDoorSnG
import Derived.Test.YtneadcbadnicfaaDoorShRune
namespace Go.Proofs.YtneadcbadnicfaaDoor
open Go.ChangeShapes Go.WideShapes Go.ChangeAt Go.RowKit Go.Shelf

/-- What Text leaves. -/
def TxtPost (w : World) (s mb : Nat) (p : Option Addr) (n cap K : Nat) (zs : List Int) (o : Option (List Int × Nat)) (e : Ending) (w' : World) : Prop :=
  (∃ T b v, o = some (T, b) ∧ e = .returned (.tuple #[v, .bool true]) ∧ w'.ownsRow w.heap.size 5 1 v T.length (T.map (Value.int .u8)) ∧ (∀ z ∈ T, 0 ≤ z ∧ z ≤ 255) ∧ T.length ≤ 4 * n ∧ ScTo w s mb p n cap K zs b w') ∨
  (o = none ∧ ∃ a', e = .returned (.tuple #[.slice none 0 0, .bool false]) ∧ ScTo w s mb p n cap K zs a' w')
theorem own_exw {R S B : Nat} {w w' : World} {e : TypeId} {v : Value} {n : Nat} {xs : List Value} (ho : w.ownsRow B e 1 v n xs) (hb : Exw R S w.heap.size w w') (hR : R < B) (hS : S < B) : w'.ownsRow B e 1 v n xs := by
  have hl := ownsRow_lt ho
  refine hb.ownsRow ho ?_ ?_
  · intro h; have := (hl _ h).1; omega
  · intro h; have := (hl _ h).1; omega
theorem ScSt.keep {w w' : World} {s mb : Nat} {p : Option Addr} {n cap K : Nat} {zs : List Int} {a B : Nat} (h : ScSt w s mb p n cap K zs a) (hb : Below B w w') (hs : s < B) (hm : mb < B) (hp : ∀ q, p = some q → q.block < B) : ScSt w' s mb p n cap K zs a := by
  refine ⟨blk_below h.blk hb hs, blk_below h.met hb hm, ⟨h.by_.1, fun hne => ?_⟩, h.len, h.cap_, h.ne, h.np, h.le, h.low, h.high⟩
  obtain ⟨b, off, rfl, hlt, hc⟩ := h.by_.2 hne
  exact ⟨b, off, rfl, Nat.lt_of_lt_of_le hlt hb.size, fun i hi => (hb.cell (p := ⟨b, off + i, none⟩) (show b < B from hp ⟨b, off, none⟩ rfl)).trans (hc i hi)⟩
theorem grown_below {w w' : World} {o : Obj} {B : Nat} {e : TypeId} {v : Value} {n : Nat} {xs : List Value} (ho : w.ownsRow B e 1 v n xs) (hg : (w.alloc o).grownBy w' v.ownBlock) (hB : B ≤ w.heap.size) : Below B w w' := by
  refine ⟨hg.os, hg.tape, hg.output, ?_, fun k hk => ?_⟩
  · have := hg.size; simp at this; omega
  · refine (hg.block k (by simp; omega) ?_).trans (Below.heap_alloc w o k (by omega))
    intro h
    have := (ownsRow_lt ho k h.symm).1
    omega
/-- The place at which a scanner is, out of its block. -/
def atOf (w : World) (s : Nat) : Nat := match w.cell? ⟨s, 1, none⟩ with | some (.int _ x) => x.toNat | _ => 0
theorem atOf_st {w : World} {s mb : Nat} {p : Option Addr} {n cap K : Nat} {zs : List Int} {a : Nat} (h : ScSt w s mb p n cap K zs a) : atOf w s = a := by
  unfold atOf
  rw [(blk3 h.blk).2.2.1]
  simp
theorem enc_app {T : List Int} {r : Nat} (h : ∀ z ∈ T, 0 ≤ z ∧ z ≤ 255) (hr : isRune r) : ∀ z ∈ T ++ enc r, 0 ≤ z ∧ z ≤ 255 := fun z hz => by
  rcases List.mem_append.1 hz with h1 | h1
  · exact h z h1
  · exact enc_bd r hr z h1
theorem text_any (s mb : Nat) (p : Option Addr) (n cap K : Nat) (zs : List Int) (a : Nat) (w : World) (hT : Tabs w) (hN : NotTabs s mb) (hq : ∀ q, p = some q → q.block < w.heap.size) (h : ScSt w s mb p n cap K zs a) :
    Calls Tryd.prog 11 #[.pointer (some ⟨s, 0, none⟩)] w fun e w' => TxtPost w s mb p n cap K zs (txtAt zs a) e w' := by
  have S1 := Lib.hid (sign_any s mb p n cap K zs a 34 w h)
  obtain ⟨o, ho⟩ : ∃ o, txtAt zs a = o := ⟨_, rfl⟩
  rw [ho]
  have HT := Lib.hid hT
  have HN := Lib.hid hN
  have HQ := Lib.hid hq
  have HS := Lib.hid (blk_lt h.blk)
  have HM := Lib.hid (blk_lt h.met)
  have HB := Lib.hid h.by_.1
  have hbd := h.by_.1
  have hhigh := h.high
  have hlow := h.low
  clear hT hN hq h
  cases t1 : stA zs (isC 34) (runTo zs isBlank a)
  · have HO := Lib.hid (ho.symm.trans (txtAt_no t1))
    rw [t1] at S1
    clear t1 ho hbd
    go_enter Tryd.func11, Tryd.ntmps11
    go_wp2_with fail
    refine S1.out.mono ?_
    rintro e w1 ⟨rfl, h1⟩
    have H1 := Lib.hid h1
    clear h1
    go_wp2
    go_ret2
    exact .inr ⟨HO.out, _, rfl, H1.out⟩
  · have HO := Lib.hid (ho.symm.trans (txtAt_yes t1))
    have S1' : Hid (Calls Tryd.prog 16 #[.pointer (some ⟨s, 0, none⟩), .int .u8 34] w fun e w' => e = .returned (.bool true) ∧ ScTo w s mb p n cap K zs (runTo zs isBlank a + 1) w') := by rw [t1] at S1; exact S1
    generalize runTo zs isBlank a + 1 = a0 at HO S1'
    clear t1 ho hbd S1
    go_enter Tryd.func11, Tryd.ntmps11
    go_wp2_with fail
    refine S1'.out.mono ?_
    rintro e w1 ⟨rfl, h1⟩
    have H1 := Lib.hid h1
    clear h1
    go_wp2
    go_loopw [4] (fun v wr => ∃ (T : List Int) (b : Nat), o = txtGo zs b T ∧ wr.ownsRow w.heap.size 5 1 v T.length (T.map (Value.int .u8)) ∧ (∀ z ∈ T, 0 ≤ z ∧ z ≤ 255) ∧ T.length ≤ 4 * b ∧ ScTo w s mb p n cap K zs b wr) (fun _ wr => n + 1 - atOf wr s)
    case atStart => exact ⟨[], a0, HO.out, World.ownsRow_nil _ _ _ _, (fun z hz => by cases hz), by simp, H1.out⟩
    case round =>
      obtain ⟨T, b, ht, hown, hbd, hlT, hsc⟩ := hrel
      have HT1 := Lib.hid (HT.out.exw hsc.1 HN.out)
      have HX := Lib.hid hsc
      have HOW := Lib.hid hown
      have HTB := Lib.hid hbd
      have HLT := Lib.hid hlT
      have TK := Lib.hid (taken_any s mb p n cap K zs b 34 _ hsc.2)
      have hbn := hsc.2.le
      clear hsc hown hbd hlT
      cases t2 : stA zs (isC 34) b
      · rw [t2] at TK
        have SG := Lib.hid (fun W hT h => sgn_any s mb p n cap K zs b W hT HN.out h)
        cases hsg : sgnAt zs b with
        | none =>
          have HO2 := Lib.hid (ht.trans (txtGo_no t2 hsg))
          rw [hsg] at SG
          clear hsg t2 ht
          go_wp2_with fail
          refine TK.out.mono ?_
          rintro e w2 ⟨rfl, h2⟩
          have H2 := Lib.hid (HX.out.then h2)
          have HT2 := Lib.hid (HT1.out.exw h2.1 HN.out)
          clear h2
          go_wp2_with fail
          refine (SG.out _ HT2.out H2.out.2).mono ?_
          rintro e w3 (⟨r, b', h1, rfl, h3⟩ | ⟨h1, x, a', rfl, h3⟩)
          · cases h1
          · have H3 := Lib.hid (H2.out.then h3)
            clear h1 h3
            go_wp2
            go_ret2
            exact .inr ⟨HO2.out, _, rfl, H3.out⟩
        | some rb =>
          obtain ⟨r, b1⟩ := rb
          have his := sgnAt_is HB.out hsg
          have hrn : (r : Int) ≤ 1114111 := by have := his.1; unfold isRune at this; omega
          have HI := Lib.hid his
          have HO2 := Lib.hid (ht.trans (txtGo_step HB.out t2 hsg))
          rw [hsg] at SG
          clear hsg t2 ht his
          go_wp2_with fail
          refine TK.out.mono ?_
          rintro e w2 ⟨rfl, h2⟩
          have H2 := Lib.hid (HX.out.then h2)
          have HT2 := Lib.hid (HT1.out.exw h2.1 HN.out)
          have HOW2 := Lib.hid (own_exw HOW.out h2.1 HS.out HM.out)
          clear h2
          go_wp2_with fail
          refine (SG.out _ HT2.out H2.out.2).mono ?_
          rintro e w3 (⟨r', b', h1, rfl, h3⟩ | ⟨h1, x, a', rfl, h3⟩)
          rotate_left
          · cases h1
          injection h1 with h1
          injection h1 with e1 e2
          subst e1 e2
          have H3 := Lib.hid (H2.out.then h3)
          have HOW3 := Lib.hid (own_exw HOW2.out h3.1 HS.out HM.out)
          clear h3
          go_wp2_with fail
          refine (Tryd.utf8_AppendRune_plain w.heap.size _ T.length (T.map (Value.int .u8)) (r : Int) (by omega) (by omega) _ HOW3.out (by have := HLT.out; omega) H3.out.1.size).mono ?_
          rintro e w4 ⟨v4, rfl, ho4, o4, hg4⟩
          have hb4 := grown_below HOW3.out hg4 H3.out.1.size
          have H4 : Hid (ScTo w s mb p n cap K zs b1 w4) := ⟨H3.out.1.trans (.of_below hb4), H3.out.2.keep hb4 HS.out HM.out HQ.out⟩
          rw [rune_cells r HI.out.1, List.length_map] at ho4
          have HOW4 := Lib.hid ho4
          clear ho4 hg4 hb4
          go_wp2
          go_roundw
          case rel => exact ⟨T ++ enc r, b1, HO2.out, by rw [List.length_append, List.map_append]; exact HOW4.out, enc_app HTB.out HI.out.1, by have := (enc_len r).2; have := HLT.out; have := HI.out.2.1; rw [List.length_append]; omega, H4.out⟩
          case measure =>
            rw [atOf_st HX.out.2, atOf_st H4.out.2]
            have := HI.out.2
            have := HX.out.2.le
            have := HX.out.2.len
            omega
      · have HO2 := Lib.hid (ht.trans (txtGo_end t2))
        rw [t2] at TK
        clear t2 ht
        go_wp2_with fail
        refine TK.out.mono ?_
        rintro e w2 ⟨rfl, h2⟩
        have H2 := Lib.hid (HX.out.then h2)
        have HOW2 := Lib.hid (own_exw HOW.out h2.1 HS.out HM.out)
        clear h2
        go_wp2
        go_ret2
        exact .inl ⟨T, b + 1, _, HO2.out, rfl, HOW2.out, HTB.out, by have := HLT.out; omega, H2.out⟩
end Go.Proofs.YtneadcbadnicfaaDoor
