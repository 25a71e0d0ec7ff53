/-
  The law's heavy: of a value in memory it hands back some number. Conditions: those that each theorem names.
-/
import Derived.Test.YtfghaopimeoijaaDoorVTop
namespace Go.Proofs.YtfghaopimeoijaaDoor
open Go.ChangeShapes Go.WideShapes Go.ChangeAt Go.RowKit Go.Shelf

/-- heavy hands back some number, where it may look so deep. -/
def HeavyAt (d : Nat) : Prop := ∀ (W : World) (v : PV) (val : Value), IsV W v val →
    Calls Tryd.prog 15 #[val, .int .i64 d] W fun e w' => (∃ z : Int, e = .returned (.int .i64 z)) ∧ Below W.heap.size W w'
def HvAt (W0 : World) (ks : List PV) (i n : Value) (W : World) : Prop := ∃ (j : Nat) (z : Int), j ≤ ks.length ∧ i = .int .i64 j ∧ n = .int .i64 z ∧ Below W0.heap.size W0 W
set_option maxRecDepth 100000 in
set_option maxHeartbeats 8000000 in
theorem heavy_step (d : Nat) (hd : d ≤ 100) (hnext : ∀ r, d = r + 1 → HeavyAt r) : HeavyAt d := by
  intro w v val hv
  obtain ⟨ba, ka, bc, kc, rfl, hn, hby, hbl, hbm, hkl, hkm, hks⟩ := hv.form
  have hb := (Below.refl w.heap.size w).alloc (Nat.le_refl _) (.cells #[.int .u64 v.num, .slice ba v.bytes.length bc, .slice ka v.kids.length kc, .bool v.has] 36)
  have HB := Lib.hid hb
  have HQ := Lib.hid (heap_alloc_new w (.cells #[.int .u64 v.num, .slice ba v.bytes.length bc, .slice ka v.kids.length kc, .bool v.has] 36))
  have HKS := Lib.hid (KidsAt.later (w := w) (ks := v.kids) (ka := ka) hks hb)
  have HNX := Lib.hid hnext
  clear hb hv hby hks hnext hn hbl hkl
  go_enter Tryd.func15, Tryd.ntmps15
  go_upto_region 1 with (fail)
  generalize w.alloc (.cells #[.int .u64 v.num, .slice ba v.bytes.length bc, .slice ka v.kids.length kc, .bool v.has] 36) = W0 at *
  obtain ⟨_, v0, v1, v2, v3⟩ := blk4p HQ.out
  by_cases hd0 : d = 0
  · subst hd0
    go_wp2
    go_ret
    exact ⟨⟨_, rfl⟩, HB.out⟩
  have hdn : ((d : Int) == 0) = false := by simp; omega
  obtain ⟨r, hr⟩ : ∃ r, d = r + 1 := ⟨d - 1, by omega⟩
  have HN := Lib.hid (HNX.out r hr)
  have hrw : (d : Int) - 1 = (r : Int) := by omega
  have hrw2 : IntKind.i64.wrap (r : Int) = r := IntWalk.i64_in _ (by omega)
  clear hr HNX
  generalize v.kids = ks at *
  go_wp2_with fail
  go_loopw [17, 5] (fun i n wr => HvAt W0 ks i n wr) (fun i _ _ => ks.length - (intOf i).toNat)
  case atStart => exact ⟨0, _, Nat.zero_le _, rfl, rfl, Below.refl _ _⟩
  case round =>
    obtain ⟨j, z, hj, rfl, rfl, hb⟩ := hrel
    have HBW := Lib.hid hb
    clear hb
    by_cases hjl : j < ks.length
    · have hji : (j : Int) < ks.length := by omega
      have hji0 : (0 : Int) ≤ (j : Int) := by omega
      obtain ⟨kb, ko, u0, u1, u2, u3, rfl, c0, c1, c2, c3, hiv⟩ := HKS.out.later HBW.out j hjl
      have HIV := Lib.hid hiv
      obtain ⟨q, hq⟩ : ∃ q, ks[j] = q := ⟨_, rfl⟩
      rw [hq] at HIV
      obtain ⟨ba', qa, bc', qc, hval, _⟩ := HIV.out.form
      injection hval with hval
      have e0 := congrArg (fun x : Array Value => x[0]?) hval
      have e1 := congrArg (fun x : Array Value => x[1]?) hval
      have e2 := congrArg (fun x : Array Value => x[2]?) hval
      have e3 := congrArg (fun x : Array Value => x[3]?) hval
      simp at e0 e1 e2 e3
      subst e0 e1 e2 e3
      clear hiv hq hval
      go_upto_region 7 with (fail)
      have hba : Below wr.heap.size wr (wr.alloc (.cells #[.int .u64 q.num, .slice ba' q.bytes.length bc', .slice qa q.kids.length qc, .bool q.has] 36)) := (Below.refl _ _).alloc (Nat.le_refl _) _
      have HF := Lib.hid (heap_alloc_new wr (.cells #[.int .u64 q.num, .slice ba' q.bytes.length bc', .slice qa q.kids.length qc, .bool q.has] 36))
      have HB1 := Lib.hid (HBW.out.trans (hba.mono HBW.out.size))
      have HIV1 := Lib.hid (HIV.out.later hba)
      generalize wr.alloc (.cells #[.int .u64 q.num, .slice ba' q.bytes.length bc', .slice qa q.kids.length qc, .bool q.has] 36) = W1 at *
      generalize wr.heap.size = F at *
      clear c0 c1 c2 c3 hba HIV
      obtain ⟨_, f0, f1, f2, f3⟩ := blk4p HF.out
      go_wp2_with fail
      refine (HN.out W1 q _ HIV1.out).mono ?_
      rintro e W2 ⟨⟨z2, rfl⟩, hb2⟩
      have HB2 := Lib.hid (HB1.out.trans (hb2.mono HB1.out.size))
      clear hb2 f0 f1 f2 f3
      by_cases hz : 2000 < wrap64 (z + z2)
      · go_wp2
        go_ret
        exact ⟨⟨_, rfl⟩, HB.out.trans (HB2.out.mono HB.out.size)⟩
      · go_wp2
        go_roundw
        case rel => exact ⟨j + 1, _, by omega, by go_num, rfl, HB2.out⟩
        case measure => simp [intOf]; omega
    · obtain rfl : j = ks.length := by omega
      go_wp2
      go_ret
      exact ⟨⟨_, rfl⟩, HB.out.trans (HBW.out.mono HB.out.size)⟩
theorem heavy_any : ∀ d, d ≤ 100 → HeavyAt d
  | 0, h => heavy_step 0 h (fun r hr => by cases hr)
  | r + 1, h => heavy_step (r + 1) h (fun r' hr => by injection hr with hr; exact hr ▸ heavy_any r (by omega))
end Go.Proofs.YtfghaopimeoijaaDoor
