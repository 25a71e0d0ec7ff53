/-
  The law ScanTexts by a walk of its text: at every input it returns true. Condition: the library's tables and its variable ErrRange hold what the row lists.
-/
import Derived.Test.YtneadcbadnicfaaDoorSuQ
import Derived.Deep.RegionLaw
namespace Go.Proofs.YtneadcbadnicfaaDoor
open Go.ChangeShapes Go.WideShapes Go.ChangeAt Go.RowKit Go.Shelf

set_option maxHeartbeats 1600000 in
set_option maxRecDepth 20000 in
theorem scanTexts_walk (a1 : Option Addr) (len cap : Nat) (z1 : List Int) (x : Int) (w : World) (h1 : IsRow .u8 w a1 len cap z1) (_hx : (Lit.int .i64 x).wf = true) (hT : Tabs w) (hE : ErrV w) :
    Calls Tryd.prog 3 #[.slice a1 len cap, .int .i64 x] w fun e w' => e = .returned (.bool true) ∧ Below w.heap.size w w' := by
  have HA := Lib.hid (awake13_any w hT hE)
  have HZ := Lib.hid (row_bytes h1)
  have hcl := h1.1
  have hcm := h1.2.1
  have HT0 := Lib.hid hT
  clear hT hE h1 _hx
  by_cases hbig : (3000 : Int) < (len : Int)
  · go_enter Tryd.func3, Tryd.ntmps3
    go_wp2_with fail
    refine HA.out.mono ?_
    rintro e w1 ⟨rfl, hb1⟩
    go_wp2
    go_ret
    exact ⟨rfl, hb1⟩
  · obtain ⟨i0, hi0, hzz0, hzz1, hzz2⟩ := info_parts u8_info
    have I1 := Lib.hid hi0
    have I2 := Lib.hid hzz0
    have I3 := Lib.hid hzz1
    have I4 := Lib.hid hzz2
    clear hi0 hzz0 hzz1 hzz2
    go_enter Tryd.func3, Tryd.ntmps3
    go_wp2_with fail
    refine HA.out.mono ?_
    rintro e w1 ⟨rfl, hb1⟩
    have HB1 := Lib.hid hb1
    have HN := Lib.hid (own_none w1)
    have HS := Lib.hid (src_u8 (HZ.out.1.below (Nat.le_refl _) hb1) HZ.out.2 ((Below.refl w1.heap.size w1).alloc (Nat.le_refl _) (.cells #[] 5)) cap)
    clear hb1
    go_wp2_with (at_builtin; refine wpList_append_first _ rfl (.tmp 16) (.tmp 17) 22 22 rfl w1.heap.size 5 i0 _ 1 Tryd.underlying22 I1.out I2.out I3.out rfl _ rfl HN.out _ len ((z1.take len).map (Value.int .u8)) rfl HS.out (by unfold maxLen; omega) (by rw [I4.out]; omega) (by simp) ?_; intro v4 W2 hown4 hg4 hat4; clear hat4; obtain ⟨a4, m4, rfl⟩ := ownsRow_form hown4)
    obtain ⟨q1, q2, q3, q4⟩ := copied HZ.out.2 (bytes_mem HZ.out.1) hown4 hg4
    have HB2 := Lib.hid (HB1.out.trans (q4.mono HB1.out.size))
    have HQ2 := Lib.hid q2
    have HQ3 := Lib.hid q3
    clear hown4 hg4 q2 q3 q4
    refine (open_any a4 len m4 (z1.take len) x W2 HQ2.out HZ.out.2 q1 (by omega) (fun q hq => (HQ3.out q hq).2)).mono ?_
    rintro e w3 ⟨rfl, h3, hb3⟩
    have H3 := Lib.hid h3
    have HB3 := Lib.hid hb3
    have hs3 := blk_lt h3.blk
    clear h3 hb3
    have cm := clamp_min x len
    have hca := clampZ_le x len
    generalize clampZ x len = a at cm hca H3
    go_upto_region 7 with (fail)
    have HD := Lib.hid (duo_start HB2.out H3.out HB3.out HZ.out.1 hcl hca (fun q hq => (HQ3.out q hq).2) (by omega))
    have HTT := Lib.hid (HT0.out.below (Nat.le_refl _) HD.out.bel)
    have HPB := Lib.hid (show ∀ q, a4 = some q → q.block < w3.heap.size + 1 from fun q hq => by have := (HQ3.out q hq).2; have := HB3.out.size; omega)
    clear cm H3 HB3 HB2 hs3 HQ2 HQ3 q1 HN HS I1 I2 I3 I4 HB1
    have hsz4 : w3.heap.size + 1 ≤ (w3.alloc (.cells #[.slice none 0 0, .slice none 0 0, .int .i64 0, .slice a1 len cap, .int .i64 (a : Nat), .bool false] 32)).heap.size := by simp
    generalize w3.alloc (.cells #[.slice none 0 0, .slice none 0 0, .int .i64 0, .slice a1 len cap, .int .i64 (a : Nat), .bool false] 32) = W4 at *
    generalize W2.heap.size + 1 = s at HD ⊢
    generalize W2.heap.size = mb at HD
    generalize w3.heap.size = r at HD hsz4 HPB ⊢
    generalize z1.take len = zs at HD HZ
    generalize 1099511627776 + a = K at HD
    have hsz := HT0.out.sizes
    have hNT : NotTabs s mb := not_tabs HT0.out HD.out.l1 HD.out.l2
    have hNR : 0 ≠ r ∧ 1 ≠ r := by have := HD.out.l3; constructor <;> omega
    have TX := Lib.hid (text_any s mb a4 len m4 K zs a W4 HTT.out hNT (fun q hq => by have := HPB.out q hq; omega) HD.out.sc)
    have RX := Lib.hid (fun W hT h => rtext_any r (.slice none 0 0) (.slice none 0 0) (.int .i64 0) a1 len cap zs (.bool false) a W hT hNR hca h)
    rw [rtx_is (bd_le (bytes_mem HZ.out.1)) a] at RX
    have HNT := Lib.hid hNT
    have hrl := blk_lt HD.out.rd.blk
    clear hsz hNT hNR
    generalize txtAt zs a = o at TX RX
    go_wp2_with fail
    refine TX.out.mono ?_
    rintro e w5 (⟨T, b, v, rfl, rfl, ho, hTb, hTl, h5⟩ | ⟨rfl, a', rfl, h5⟩)
    · have H5 := Lib.hid (HD.out.left h5)
      have HT5 := Lib.hid (HTT.out.exw h5.1 HNT.out)
      have HO5 := Lib.hid ho
      have HTB := Lib.hid hTb
      clear ho hTb h5
      go_wp2_with fail
      refine (RX.out _ HT5.out H5.out.rd).mono ?_
      rintro e w6 (⟨T', b', v', h1, rfl, ho', _, _, h6⟩ | ⟨h1, _⟩)
      rotate_left
      · cases h1
      injection h1 with h1
      injection h1 with e1 e2
      subst e1 e2
      have H6 := Lib.hid (H5.out.right h6)
      have HO6 := Lib.hid (own_exc HO5.out h6.1 hrl)
      obtain ⟨px, cx, rfl, hcx, hyx, _⟩ := own_bytes HO6.out HTB.out
      obtain ⟨py, cy, rfl, hcy, hyy, _⟩ := own_bytes ho' HTB.out
      have cvx : ∀ nq, (convert 22 9 (.slice px T.length cx)).run Tryd.prog (w6.drewN nq) = .ok (.string (strOfNums T)) (w6.drewN nq) := fun nq => conv_slice (hyx.below (Nat.le_refl _) (bel_drewN (Below.refl _ _) nq)) cx
      have cvy : ∀ nq, (convert 22 9 (.slice py T.length cy)).run Tryd.prog (w6.drewN nq) = .ok (.string (strOfNums T)) (w6.drewN nq) := fun nq => conv_slice (hyy.below (Nat.le_refl _) (bel_drewN (Below.refl _ _) nq)) cy
      obtain ⟨hr, c3, c4, f3, f4⟩ := rd6 H6.out.rd
      have HAT := Lib.hid (fun k => sc_at s mb _ _ _ _ _ _ _ (H6.out.sc.below (bel_drewN (Below.refl _ _) k)))
      generalize strOfNums T = S at cvx cvy
      generalize T.length = tl at cvx cvy
      clear ho' h6 hyx hyy hcx hcy
      go_wp2
      go_quiet (first | (go_at_call 13; exact quiet_same (HAT.out _)))
      go_wp2
      go_ret
      exact ⟨rfl, H6.out.bel.trans (bel_drewN (Below.refl _ _) _)⟩
    · have H5 := Lib.hid (HD.out.left h5)
      have HT5 := Lib.hid (HTT.out.exw h5.1 HNT.out)
      clear h5
      go_wp2_with fail
      refine (RX.out _ HT5.out H5.out.rd).mono ?_
      rintro e w6 (⟨T', b', v', h1, _⟩ | ⟨_, v', a'', rfl, h6⟩)
      · cases h1
      have H6 := Lib.hid (H5.out.right h6)
      clear h6
      go_wp2
      go_region
      go_wp2
      go_ret
      exact ⟨rfl, H6.out.bel.trans (Below.refl _ _).drew⟩
end Go.Proofs.YtneadcbadnicfaaDoor
