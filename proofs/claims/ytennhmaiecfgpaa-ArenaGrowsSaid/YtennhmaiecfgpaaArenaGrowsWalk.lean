/-
  The law ArenaGrows returns true for all pieces and every bound: a walk over the callees' contracts. No conditions but that what came in can be read.
-/
import Derived.Test.YtennhmaiecfgpaaAAwake
namespace Go.Proofs.Ytennhmaiecfgpaa
open Go.ChangeShapes Go.WideShapes Go.ChangeAt Go.RowKit

/-- A slice of slices of bytes that came in. -/
def IsRows (w : World) (a : Option Addr) (len : Nat) : Prop :=
  len ≤ maxLen ∧ ∀ r, r < len → ∃ b off A L C Z, a = some ⟨b, off, none⟩ ∧ b < w.heap.size ∧ w.cell? ⟨b, off + r, none⟩ = some (.slice A L C) ∧ IsRow .u8 w A L C Z
/-- What the loop's head knows. -/
def GrowsRel (w : World) (ar len : Nat) (m : Int) (al i : Value) (wr : World) : Prop :=
  ∃ (k : Nat) (zs : List Int) (A : Option Addr) (cap : Nat) (S : ByteArray), al = .string S ∧ i = .int .i64 k ∧ k ≤ len ∧ S = strOfNums zs ∧ IsArena wr w.heap.size ar A cap zs m false ∧ Below w.heap.size w wr
theorem strOfNums_append (a b : List Int) : strOfNums a ++ strOfNums b = strOfNums (a ++ b) := by
  unfold strOfNums
  rw [ByteArray.mk_append_mk]
  simp
set_option maxRecDepth 100000 in
theorem arenaGrows_walk (a : Option Addr) (len cap : Nat) (_zs : Unit) (most : Int) (w : World) (hz : IsRows w a len) (hm : (Lit.int .i64 most).wf = true) :
    Calls Try.prog 5 #[.slice a len cap, .int .i64 most] w fun e w' => e = .returned (.bool true) ∧ Below w.heap.size w w' := by
  obtain ⟨hl, hp⟩ := hz
  unfold maxLen at hl
  have bm := bounds_i64 hm
  have HP := Lib.hid hp
  clear hp hm
  go_enter Try.func5, Try.ntmps5
  go_wp2_with fail
  refine (awake_any _).mono ?_
  rintro e w1 ⟨rfl, hb⟩
  have HB := Lib.hid hb
  clear hb
  obtain ⟨m, hm0, hm1, hm2⟩ : ∃ m : Int, wrap64 ((IntKind.u64.wrap most).tmod 4000) = m ∧ 0 ≤ m ∧ m ≤ 3999 := by
    refine ⟨_, rfl, ?_⟩
    have h1 := Int.tmod_nonneg (4000 : Int) (show 0 ≤ IntKind.u64.wrap most by rw [IntKind.wrap_u64]; omega)
    have h2 := Int.tmod_lt_of_pos (IntKind.u64.wrap most) (show (0 : Int) < 4000 by decide)
    unfold wrap64
    omega
  have HM0 := Lib.hid hm0
  clear hm0
  go_wp2_with fail
  rw [HM0.out]
  refine (new_any _ _).mono ?_
  rintro e w2 ⟨rfl, hw2⟩
  have ha2 := new_arena m w1 w.heap.size HB.out.size
  rw [← hw2, show atMost m = m by unfold atMost; omega] at ha2
  have A2 := Lib.hid ha2
  have B2 := Lib.hid (show Below w.heap.size w w2 by rw [hw2]; exact HB.out.alloc HB.out.size _)
  clear hw2 ha2
  go_wp2_with fail
  go_loopw [6, 7] (fun al i wr => GrowsRel w w1.heap.size len m al i wr) (fun _ i _ => len - (intOf i).toNat)
  case atStart => exact ⟨0, [], none, 0, _, rfl, rfl, Nat.zero_le _, rfl, A2.out, B2.out⟩
  case round =>
    obtain ⟨k, zs, A, c, S, rfl, rfl, hk, hS, hA, hB⟩ := hrel
    have HS := Lib.hid hS
    have hfit := hA.fits
    have HA := Lib.hid hA
    have BR := Lib.hid hB
    have hsz : S.size = zs.length := by rw [hS, strOfNums_size]
    clear hA hB hS
    by_cases hgo : k < len ∧ (k : Int) < 100
    · obtain ⟨hlt, hlt2⟩ := hgo
      obtain ⟨b, off, P, L, C, Z, rfl, hbs, hc, hrow⟩ := HP.out k hlt
      have hcell : wr.cell? ⟨b, off + k, none⟩ = some (.slice P L C) := (BR.out.cell (p := ⟨b, off + k, none⟩) hbs).trans hc
      have HR := Lib.hid hrow
      clear hc hrow
      by_cases hbig : 1000 < (L : Int)
      · go_wp2
        go_ret
        exact ⟨rfl, BR.out⟩
      · by_cases hroom : (L : Int) ≤ m - zs.length
        · have hnl : (Z.take L).length = L := by have h1 := HR.out.1; have h2 := HR.out.2.2.1; simp; omega
          have HNL := Lib.hid hnl
          clear hnl
          go_wp2_with fail
          refine (put_yes (news := Z.take L) HA.out P L C hroom BR.out.size HNL.out (fun w' hw' => HR.out.src (BR.out.trans (hw'.base HA.out)))).mono ?_
          rintro e w3 ⟨rfl, A3, c3, ha3, hm3, _⟩
          have A3 := Lib.hid ha3
          have hb3 := BR.out.trans (hm3.base HA.out)
          have B3 := Lib.hid hb3
          have hcell3 : w3.cell? ⟨b, off + k, none⟩ = some (.slice P L C) := (hb3.cell (p := ⟨b, off + k, none⟩) hbs).trans ((BR.out.cell (p := ⟨b, off + k, none⟩) hbs).symm.trans hcell)
          have s1 := HR.out.str (P := Try.prog) hb3 26 9 Try.underlying26 Try.underlying5 Try.underlying9
          have hTs : (strOfNums (Z.take L)).size = L := by rw [strOfNums_size]; exact HNL.out
          obtain ⟨T, hT⟩ : ∃ T, strOfNums (Z.take L) = T := ⟨_, rfl⟩
          have HT := Lib.hid hT
          rw [hT] at s1 hTs
          have hadd : ∀ v : World, (Op.stringOp .add S T).run Try.prog v = .ok (.string (S ++ T)) v := fun v => run_string_add_sum v S T (by omega)
          clear ha3 hm3 hb3 hcell hT
          go_wp2_with fail
          refine ⟨⟨k + 1, _, _, _, S ++ T, rfl, by go_num, by omega, ?_, A3.out, B3.out⟩, by simp [intOf]; omega⟩
          rw [HS.out, ← HT.out, strOfNums_append]
        · go_wp2_with fail
          refine (put_no HA.out P L C (.inr (by omega))).mono ?_
          rintro e w3 ⟨rfl, A3, c3, ha3, hm3, _⟩
          have A3 := Lib.hid ha3
          have hb3 := BR.out.trans (hm3.base HA.out)
          have B3 := Lib.hid hb3
          have hcell3 : w3.cell? ⟨b, off + k, none⟩ = some (.slice P L C) := (hb3.cell (p := ⟨b, off + k, none⟩) hbs).trans ((BR.out.cell (p := ⟨b, off + k, none⟩) hbs).symm.trans hcell)
          clear ha3 hm3 hb3 hcell
          go_wp2_with fail
          refine (bytes_no A3.out).mono ?_
          rintro e w4 ⟨rfl, rfl⟩
          go_wp2_with fail
          refine (over_any A3.out).mono ?_
          rintro e w4 ⟨rfl, rfl⟩
          go_wp2_with fail
          refine (len_any A3.out).mono ?_
          rintro e w4 ⟨rfl, rfl⟩
          go_wp2
          go_ret
          exact ⟨rfl, B3.out⟩
    · have fin := Lib.hid (bytes_yes HA.out)
      by_cases hlt : k < len
      · have hlt2 : ¬ (k : Int) < 100 := fun h => hgo ⟨hlt, h⟩
        clear hgo
        go_wp2_with fail
        refine fin.out.mono ?_
        rintro e w3 ⟨rfl, ho, hb3⟩
        have s1 := ho.str (P := Try.prog) 26 9 Try.underlying26 Try.underlying5 Try.underlying9
        rw [← HS.out] at s1
        have B3 := Lib.hid (BR.out.trans (hb3.mono BR.out.size))
        clear ho hb3
        go_wp2
        go_ret
        exact ⟨rfl, B3.out⟩
      · clear hgo
        go_wp2_with fail
        refine fin.out.mono ?_
        rintro e w3 ⟨rfl, ho, hb3⟩
        have s1 := ho.str (P := Try.prog) 26 9 Try.underlying26 Try.underlying5 Try.underlying9
        rw [← HS.out] at s1
        have B3 := Lib.hid (BR.out.trans (hb3.mono BR.out.size))
        clear ho hb3
        go_wp2
        go_ret
        exact ⟨rfl, B3.out⟩
end Go.Proofs.Ytennhmaiecfgpaa
