/-
  The law LayoutUnits returns true for every text: a walk over the callees' contracts. Condition: the listed widths lie as the row lists them.
-/
import Derived.Test.YtcbkdohahfjbfaaDoorLayAwake
import Derived.Test.YtcbkdohahfjbfaaDoorLayRUnits
import Derived.Laws.IdiomStrings
import Derived.Laws.Cover4
namespace Go.Proofs.YtcbkdohahfjbfaaDoor
open Go.ChangeShapes Go.WideShapes Go.ChangeAt Go.RowKit Go.Shelf

theorem runesFrom_is (s : ByteArray) : ∀ (b i : Nat) (acc : Array Value), Conv.runesFrom s b i acc = acc ++ ((runesL s b i).map (Value.int .i32)).toArray
  | 0, _, acc => by simp [Conv.runesFrom, runesL]
  | b + 1, i, acc => by
    unfold Conv.runesFrom runesL
    split
    · simp only [runesFrom_is s b]
      apply Array.ext'
      simp
    · simp
theorem runesL_length (s : ByteArray) : ∀ (b i : Nat), (runesL s b i).length ≤ b
  | 0, _ => by simp [runesL]
  | b + 1, i => by
    unfold runesL
    split
    · rw [List.length_cons]; have := runesL_length s b (i + (Utf8.decode s i).2); omega
    · simp
theorem conv_text (s : ByteArray) (W : World) (hs : s.size ≤ 3000) :
    ∃ n cap W' t, (convert 9 65 (.string s)).run Tryd.prog W = .ok (.slice (some ⟨W.heap.size, 0, none⟩) n cap) W' ∧ (convert 65 9 (.slice (some ⟨W.heap.size, 0, none⟩) n cap)).run Tryd.prog W' = .ok (.string t) W' ∧ Below W.heap.size W W' ∧ t.size ≤ 12000 := by
  have e : Conv.runesFrom s s.size 0 #[] = ((runesP s).map (Value.int .i32)).toArray := by rw [runesFrom_is]; simp [runesP]
  have hl : (runesP s).length ≤ 3000 := Nat.le_trans (runesL_length s s.size 0) hs
  have hz : (Conv.runesFrom s s.size 0 #[]).size = (runesP s).length := by rw [e]; simp
  have h1 := run_runes_of_string (P := Tryd.prog) W 9 65 21 s Tryd.underlying9 Tryd.underlying65 Tryd.underlying21 (by rw [hz]; omega)
  have h2 := run_convert_runes (P := Tryd.prog) (W.drew.alloc (.cells (Conv.runesFrom s s.size 0 #[] ++ Array.replicate (grownCap W (Conv.runesFrom s s.size 0 #[]).size 0 21 - (Conv.runesFrom s s.size 0 #[]).size) (.int .i32 0)) 21)) 65 9 21 ⟨W.heap.size, 0, none⟩ (Conv.runesFrom s s.size 0 #[]).size (grownCap W (Conv.runesFrom s s.size 0 #[]).size 0 21) (runesP s) (by rw [hz]; exact Nat.le_refl _) Tryd.underlying65 Tryd.underlying21 Tryd.underlying9 (fun j hj => by
    have hq : ∀ o, (W.drew.alloc o).heap[W.heap.size]? = some o := fun o => heap_alloc_new W.drew o
    rw [add_plain, Nat.zero_add, cell_of_row _ W.heap.size _ _ _ (0, 0) (hq _), e]
    rw [Array.getElem?_append_left (by simpa using hj)]
    simp [List.getD, hj])
  refine ⟨_, _, _, _, h1, h2, (Below.refl _ W).drew.alloc (Nat.le_refl _) _, ?_⟩
  refine Nat.le_trans (runesBytes_size_le _) ?_
  rw [List.length_take]
  omega
theorem runesL_bd (s : ByteArray) : ∀ (b i : Nat), ∀ c ∈ runesL s b i, 0 ≤ c ∧ c ≤ 1114111
  | 0, _, c, h => by simp [runesL] at h
  | b + 1, i, c, h => by
    unfold runesL at h
    split at h
    · rcases List.mem_cons.1 h with rfl | h
      · have := Lib.rune_le s i
        omega
      · exact runesL_bd s b _ c h
    · cases h
theorem units_bd (s : ByteArray) : ∀ z ∈ unitsP s, 0 ≤ z ∧ z ≤ 65535 := by
  intro z hz
  obtain ⟨c, hc, hzc⟩ := List.mem_flatMap.1 hz
  obtain ⟨h0, h1⟩ := runesL_bd s _ _ c hc
  unfold unitR at hzc
  split at hzc
  · simp at hzc; omega
  · simp at hzc; omega
/-- Where the law's loop over the text's runes is. -/
def LAt (B : Nat) (W0 : World) (t : ByteArray) (n far : Value) (W : World) : Prop :=
  ∃ (pos fuel : Nat) (seen : List Int), W.heap[B]? = some (.stringIter t pos) ∧ Below B W0 W ∧ n = .int .i64 seen.length ∧ far = .int .i64 (farP seen) ∧ seen ++ runesL t fuel pos = runesP t ∧ t.size ≤ pos + fuel
def CAt (W0 : World) (m : Nat) (i : Value) (W : World) : Prop := ∃ k : Nat, k ≤ m ∧ i = .int .i64 k ∧ Below W0.heap.size W0 W
theorem farP_le (l : List Int) : farP l ≤ l.length := List.length_filter_le _ _
theorem row_one {W : World} {base : Nat} {e : TypeId} {v : Value} {l : List Int} {k : IntKind} (h : W.ownsRow base e 1 v l.length (l.map (Value.int k))) (j : Nat) (hj : j < l.length) :
    ∃ g c, v = .slice (some ⟨g, 0, none⟩) l.length c ∧ l.length ≤ c ∧ g < W.heap.size ∧ W.cell? ⟨g, j, none⟩ = some (.int k l[j]) := by
  obtain ⟨g, c, hv, hc, _, hg, hcell⟩ := row_at h (by omega)
  refine ⟨g, c, hv, hc, hg, ?_⟩
  rw [hcell j (by omega), List.getElem?_map, List.getElem?_eq_getElem hj]
  rfl
set_option maxRecDepth 100000 in
set_option maxHeartbeats 4000000 in
theorem layoutUnits_walk (s : ByteArray) (w : World) (hs : s.size ≤ 9223372036854775807) (hT : WTab w) :
    Calls Tryd.prog 6 #[.string s] w fun e w' => e = .returned (.bool true) ∧ Below w.heap.size w w' := by
  have HT := Lib.hid hT
  clear hT
  go_enter Tryd.func6, Tryd.ntmps6
  go_wp2_with fail
  refine (lawake_any w HT.out).mono ?_
  rintro e W1 ⟨rfl, hb1⟩
  have HB1 := Lib.hid hb1
  clear hb1
  by_cases hsz : s.size ≤ 3000
  · have hlt : ¬ (3000 : Int) < (s.size : Int) := by omega
    obtain ⟨n, cap, W2, t, hr1, hr2, hb2, htz⟩ := conv_text s W1 hsz
    have HB2 := Lib.hid (HB1.out.trans (hb2.mono HB1.out.size))
    clear hb2
    go_wp2_with fail
    refine (lunits_any t W2 (by omega)).mono ?_
    rintro e W3 ⟨v, rfl, hrow3, hb3⟩
    obtain ⟨la, lc, rfl⟩ := ownsRow_form hrow3
    have HR3 := Lib.hid hrow3
    have HB3 := Lib.hid (HB2.out.trans (hb3.mono HB2.out.size))
    clear hr1 hr2 hb3 hrow3
    go_wp2_with fail
    refine (runits_any t W3 (by omega)).mono ?_
    rintro e W4 ⟨u, rfl, hrow4, hb4⟩
    obtain ⟨ra, rc, rfl⟩ := ownsRow_form hrow4
    have HR4 := Lib.hid hrow4
    have HL4 := Lib.hid (row_keep hb4 HR3.out)
    have HB4 := Lib.hid (HB3.out.trans (hb4.mono HB3.out.size))
    have HCNT : Hid ((unitsP t).length = (runesP t).length + farP (runesP t)) := Lib.hid (units_count _)
    have hrl : (runesP t).length ≤ 12000 := Nat.le_trans (runesL_length t t.size 0) htz
    have hfl := farP_le (runesP t)
    have hul : (unitsP t).length ≤ 24000 := by have := HCNT.out; omega
    clear hb4 hrow4 HR3
    go_wp2_with fail
    have HB5 := Lib.hid (HB4.out.alloc HB4.out.size (.stringIter t 0))
    have hIT : (W4.alloc (.stringIter t 0)).heap[W4.heap.size]? = some (.stringIter t 0) := heap_alloc_new W4 _
    have HB45 := Lib.hid ((Below.refl _ W4).alloc (Nat.le_refl _) (.stringIter t 0))
    go_loopw [5, 6] (fun n far wr => LAt W4.heap.size W4 t n far wr) (fun _ _ wr => t.size - wr.iterPos W4.heap.size)
    case atStart => exact ⟨0, t.size, [], hIT, HB45.out, rfl, rfl, rfl, by omega⟩
    case round =>
      obtain ⟨pos, fuel, seen, hit, hb, rfl, rfl, hseen, hfu⟩ := hrel
      have hsz : W4.heap.size < wr.heap.size := (Array.getElem?_eq_some_iff.1 hit).1
      have HIP : Hid (wr.iterPos W4.heap.size = pos) := Lib.hid (by simp only [World.iterPos, hit])
      have hsl : seen.length ≤ 12000 := by have := congrArg List.length hseen; rw [List.length_append] at this; omega
      have hfl := farP_le seen
      have HIT := Lib.hid hit
      have HB := Lib.hid hb
      have HSEEN := Lib.hid hseen
      clear hit hb hseen
      by_cases hp : pos < t.size
      · have hnx : ∀ ty, (Instr.next (.pointer (some ⟨W4.heap.size, 0, none⟩)) true ty).run Tryd.prog wr = _ := fun ty => Lib.run_next_any_at wr W4.heap.size t pos ty HIT.out hp
        have hwd := width_pos t pos hp
        have hd1 : (Utf8.decode t pos).1 ≤ 1114111 := Lib.rune_le t pos
        obtain ⟨f, rfl⟩ : ∃ f, fuel = f + 1 := ⟨fuel - 1, by omega⟩
        have HST := Lib.hid (runesL_step t f pos hp)
        have HIT2 := Lib.hid (Lib.iterAt_heap wr W4.heap.size t pos (pos + (Utf8.decode t pos).2) HIT.out)
        have HB2 := Lib.hid (Lib.below_iterAt HB.out (k := W4.heap.size) (Nat.le_refl _) t (pos + (Utf8.decode t pos).2))
        generalize wr.iterAt W4.heap.size t (pos + (Utf8.decode t pos).2) = V1 at *
        generalize (Utf8.decode t pos).2 = wid at *
        generalize (Utf8.decode t pos).1 = c at *
        have HIP2 : Hid (V1.iterPos W4.heap.size = pos + wid) := Lib.hid (by simp only [World.iterPos, HIT2.out])
        have HSE2 : Hid ((seen ++ [(c : Int)]) ++ runesL t f (pos + wid) = runesP t) := Lib.hid (by rw [← HSEEN.out, HST.out, List.append_assoc]; rfl)
        have HLN : Hid ((seen ++ [(c : Int)]).length = seen.length + 1) := Lib.hid (by simp)
        have HFA := Lib.hid (farP_snoc seen (c : Int))
        have k1 := IntWalk.i64_in ((seen.length : Int) + 1) (by omega)
        have k2 := IntWalk.i64_in ((farP seen : Int) + 1) (by omega)
        generalize farP seen = fa at *
        clear HIT HB HSEEN HST
        by_cases hc : (65535 : Int) < (c : Int)
        · have HF2 : Hid (farP (seen ++ [(c : Int)]) = fa + 1) := Lib.hid (by rw [HFA.out, if_pos hc])
          clear HFA
          go_wp2
          go_roundw
          case rel => exact ⟨pos + wid, f, seen ++ [(c : Int)], HIT2.out, HB2.out, by rw [HLN.out]; go_num, by rw [HF2.out]; go_num, HSE2.out, by omega⟩
          case measure => rw [HIP2.out, HIP.out]; omega
        · have HF2 : Hid (farP (seen ++ [(c : Int)]) = fa) := Lib.hid (by rw [HFA.out, if_neg hc]; rfl)
          clear HFA
          go_wp2
          go_roundw
          case rel => exact ⟨pos + wid, f, seen ++ [(c : Int)], HIT2.out, HB2.out, by rw [HLN.out]; go_num, by rw [HF2.out], HSE2.out, by omega⟩
          case measure => rw [HIP2.out, HIP.out]; omega
      · have hnx : ∀ ty, (Instr.next (.pointer (some ⟨W4.heap.size, 0, none⟩)) true ty).run Tryd.prog wr = _ := fun ty => Lib.run_next_end_at wr W4.heap.size t pos ty HIT.out hp
        have hall : seen = runesP t := by have h := HSEEN.out; rw [runesL_end t fuel pos hp, List.append_nil] at h; exact h
        subst hall
        have HR5 := Lib.hid (row_keep HB.out HR4.out)
        have HL5 := Lib.hid (row_keep HB.out HL4.out)
        have HB6 := Lib.hid (HB4.out.trans (HB.out.mono HB4.out.size))
        have HBD := Lib.hid (units_bd t)
        have HCN := Lib.hid HCNT.out
        clear hp
        generalize hun : unitsP t = U at *
        generalize (runesP t).length = rn at *
        generalize farP (runesP t) = rf at *
        clear hun HIT HSEEN HR4 HL4 HCNT HB HIP
        go_wp2_with fail
        clear hnx
        go_loopw [40] (fun i wq => CAt wr U.length i wq) (fun i _ => U.length - (intOf i).toNat)
        case atStart => exact ⟨0, Nat.zero_le _, rfl, Below.refl _ _⟩
        case round =>
          obtain ⟨k, hk, rfl, hb⟩ := hrel
          have HBK := Lib.hid hb
          by_cases hkl : k < U.length
          · obtain ⟨g1, c1, h1, hx1, _, x1⟩ := row_one (row_keep hb HL5.out) k hkl
            obtain ⟨g2, c2, h2, hx2, _, x2⟩ := row_one (row_keep hb HR5.out) k hkl
            obtain ⟨rfl, rfl⟩ := slice_inj h1
            obtain ⟨rfl, rfl⟩ := slice_inj h2
            have hzb := HBD.out U[k] (List.getElem_mem hkl)
            have hki : (k : Int) < U.length := by omega
            have hki0 : (0 : Int) ≤ (k : Int) := by omega
            generalize U[k] = z at *
            have k1 := IntWalk.i64_in z (by omega)
            have k3 := IntWalk.i64_in (k : Int) (by omega)
            have hd : decide (z = z) = true := by simp
            clear h1 h2 hb
            go_wp2_with fail
            go_quiet (fail)
            go_wp2
            go_roundw
            case rel => exact ⟨k + 1, hkl, by go_num, bel_drewN HBK.out _⟩
            case measure => simp [intOf]; omega
          · obtain rfl : k = U.length := by omega
            have k1 := IntWalk.i64_in ((rn : Int) + (rf : Int)) (by omega)
            have ht : ((U.length : Int) == (rn : Int) + (rf : Int)) = true := by have := HCN.out; simp; omega
            clear hb
            go_wp2
            go_ret
            exact ⟨rfl, HB6.out.trans (HBK.out.mono HB6.out.size)⟩
  · have hlt : (3000 : Int) < (s.size : Int) := by omega
    go_wp2
    go_ret
    exact ⟨rfl, HB1.out⟩
end Go.Proofs.YtcbkdohahfjbfaaDoor
