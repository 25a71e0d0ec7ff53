/-
  The package scan's Digits: bytes as digits of base sixteen, of small letters. Conditions: those that each theorem names.
-/
import Derived.Test.YtneadcbadnicfaaDoorSnU
import Derived.Test.YtneadcbadnicfaaDoorSnO
import Derived.Test.YtneadcbadnicfaaDoorSrG
import Derived.Deep.RegionLaw
import Derived.Deep.AppendLies
namespace Go.Proofs.YtneadcbadnicfaaDoor
open Go.ChangeShapes Go.WideShapes Go.ChangeAt Go.RowKit Go.Shelf

/-- The digit that says k. -/
def hexC (k : Int) : Int := if k < 10 then 48 + k else 87 + k
def digL (zs : List Int) : List Int := zs.flatMap fun z => [hexC (z / 16), hexC (z % 16)]
theorem hexD_hexC {k : Int} (h0 : 0 ≤ k) (h1 : k < 16) : hexD (hexC k) = some k.toNat := by
  unfold hexC hexD
  split
  · rw [if_pos (by omega)]; congr 1; omega
  · rw [if_neg (by omega), if_pos (by omega)]; congr 1; omega
theorem hexC_bd {k : Int} (h0 : 0 ≤ k) (h1 : k < 16) : 0 ≤ hexC k ∧ hexC k ≤ 255 := by unfold hexC; split <;> omega
theorem undig_digL : ∀ (zs : List Int), (∀ z ∈ zs, 0 ≤ z ∧ z ≤ 255) → undig (digL zs) = some zs
  | [], _ => rfl
  | z :: zs, h => by
    have hz := h z (List.mem_cons_self ..)
    have ih := undig_digL zs (fun y hy => h y (List.mem_cons_of_mem _ hy))
    show undig (hexC (z / 16) :: hexC (z % 16) :: digL zs) = _
    unfold undig
    rw [hexD_hexC (by omega) (by omega), hexD_hexC (by omega) (by omega), ih]
    simp only
    congr 2
    omega
theorem digL_bd {zs : List Int} (h : ∀ z ∈ zs, 0 ≤ z ∧ z ≤ 255) : ∀ z ∈ digL zs, 0 ≤ z ∧ z ≤ 255 := by
  intro y hy
  obtain ⟨z, hz, hy⟩ := List.mem_flatMap.1 hy
  have := h z hz
  simp at hy
  rcases hy with rfl | rfl
  · exact hexC_bd (by omega) (by omega)
  · exact hexC_bd (by omega) (by omega)
theorem digL_len (zs : List Int) : (digL zs).length = 2 * zs.length := by
  induction zs with
  | nil => rfl
  | cons z zs ih => unfold digL at ih ⊢; rw [List.flatMap_cons, List.length_append, ih]; simp; omega
theorem digL_take {zs : List Int} {k : Nat} (h : k < zs.length) : digL (zs.take (k + 1)) = digL (zs.take k) ++ [hexC (zs.getD k 0 / 16), hexC (zs.getD k 0 % 16)] := by
  rw [List.take_succ_eq_append_getElem h]
  unfold digL
  rw [List.flatMap_append]
  simp [List.getD, h]
/-- The constant of the digits, each at the place that it says. -/
theorem hex_get {k : Int} (h0 : 0 ≤ k) (h1 : k < 16) : ((((⟨#[48, 49, 50, 51, 52, 53, 54, 55, 56, 57, 97, 98, 99, 100, 101, 102]⟩ : ByteArray)[k.toNat]'(by show k.toNat < 16; omega)).toNat : Nat) : Int) = hexC k := by
  have h : k = 0 ∨ k = 1 ∨ k = 2 ∨ k = 3 ∨ k = 4 ∨ k = 5 ∨ k = 6 ∨ k = 7 ∨ k = 8 ∨ k = 9 ∨ k = 10 ∨ k = 11 ∨ k = 12 ∨ k = 13 ∨ k = 14 ∨ k = 15 := by omega
  rcases h with rfl | rfl | rfl | rfl | rfl | rfl | rfl | rfl | rfl | rfl | rfl | rfl | rfl | rfl | rfl | rfl <;> rfl
theorem make_u8c (c : Nat) (hn : c ≤ 1000000) (W : World) : (Instr.makeSlice 22 (.int .i64 0) (.int .i64 (c : Int))).run Tryd.prog W = .ok (.slice (some ⟨W.heap.size, 0, none⟩) 0 c) (W.alloc (.cells (madeCells (Value.int .u8 0).cells (c * 1)) 5)) := by
  obtain ⟨i, hi, hz, hs, hb⟩ := info_parts u8_info
  have h := run_make W 22 5 i (.int .u8 0) Tryd.underlying22 hi hz .i64 .i64 0 c (by omega) (by omega) (by rw [hb]; omega) (by omega)
  rw [hs, Int.toNat_natCast] at h
  exact h
theorem own_made (c : Nat) (hn : c ≤ 1000000) (W : World) : (W.alloc (.cells (madeCells (Value.int .u8 0).cells (c * 1)) 5)).ownsRow W.heap.size 5 1 (.slice (some ⟨W.heap.size, 0, none⟩) 0 c) 0 [] :=
  ⟨rfl, .inr ⟨W.heap.size, c, _, rfl, Nat.le_refl _, heap_alloc_new W _, Nat.zero_le _, by unfold maxLen; omega, size_madeCells _ _, rfl⟩⟩
theorem digits_any (p : Option Addr) (n cap : Nat) (zs : List Int) (w : World) (hz : Bytes w p zs) (hn : zs.length = n) (_hcap : n ≤ cap) (hl : n ≤ 100000) :
    Calls Tryd.prog 22 #[.slice p n cap] w fun e w' => e = .returned (.string (strOfNums (digL zs))) ∧ Below w.heap.size w w' := by
  have mk : ∀ W, (Instr.makeSlice 22 (.int .i64 0) (.int .i64 (2 * (n : Int)))).run Tryd.prog W = .ok (.slice (some ⟨W.heap.size, 0, none⟩) 0 (2 * n)) (W.alloc (.cells (madeCells (Value.int .u8 0).cells (2 * n * 1)) 5)) := fun W => by
    have := make_u8c (2 * n) (by omega) W
    rw [Int.natCast_mul] at this
    exact this
  have HM : Hid ((w.alloc (.cells (madeCells #[Value.int .u8 0] (2 * n)) 5)).ownsRow w.heap.size 5 1 (.slice (some ⟨w.heap.size, 0, none⟩) 0 (2 * n)) 0 []) := by
    have := own_made (2 * n) (by omega) w
    rw [Nat.mul_one] at this
    exact this
  have HZ := Lib.hid hz
  have HN := Lib.hid hn
  obtain ⟨S, hS⟩ : ∃ S, strOfNums (digL zs) = S := ⟨_, rfl⟩
  rw [hS]
  have HSS := Lib.hid hS
  clear hS
  clear hz hn
  go_enter Tryd.func22, Tryd.ntmps22
  obtain ⟨i0, hi0, hzz0, hzz1, hzz2⟩ := info_parts u8_info
  have I1 := Lib.hid hi0
  have I2 := Lib.hid hzz0
  have I3 := Lib.hid hzz1
  have I4 := Lib.hid hzz2
  clear hi0 hzz0 hzz1 hzz2
  go_wp2
  go_loopw [3, 12] (fun v i wr => ∃ k : Nat, k ≤ n ∧ i = .int .i64 k ∧ wr.ownsRow w.heap.size 5 1 v (2 * k) ((digL (zs.take k)).map (Value.int .u8)) ∧ Below w.heap.size w wr) (fun _ i _ => n - (intOf i).toNat)
  case atStart => exact ⟨0, Nat.zero_le _, rfl, HM.out, (Below.refl _ _).alloc (Nat.le_refl _) _⟩
  case round =>
    obtain ⟨k, hk, rfl, ho, hb⟩ := hrel
    obtain ⟨va, vc, rfl⟩ := ownsRow_form ho
    have HO := Lib.hid ho
    have HB := Lib.hid hb
    clear ho hb HM
    by_cases hkn : k < n
    · obtain ⟨b, off, rfl, hlt, hc⟩ := HZ.out.2 (by intro e; have := HN.out; rw [e] at this; simp at this; omega)
      have hci := (HB.out.cell (p := ⟨b, off + k, none⟩) hlt).trans (hc k (by rw [HN.out]; exact hkn))
      have HT := Lib.hid (digL_take (zs := zs) (k := k) (by rw [HN.out]; exact hkn))
      obtain ⟨c0, c1⟩ := HZ.out.1 k
      generalize zs.getD k 0 = c at hci HT c0 c1
      clear hc
      obtain ⟨H, hH⟩ : ∃ H, c / 16 = H := ⟨_, rfl⟩
      obtain ⟨L, hL⟩ : ∃ L, c % 16 = L := ⟨_, rfl⟩
      have aL : bits BinOp.and .u8 c 15 = L := (u8_and15 (x := c) c0 (by omega)).trans hL
      have h0 : 0 ≤ H := by omega
      have h1 : H < 16 := by omega
      have l0 : 0 ≤ L := by omega
      have l1 : L < 16 := by omega
      rw [hH, hL] at HT
      obtain ⟨A, hA⟩ : ∃ A, (⟨#[48, 49, 50, 51, 52, 53, 54, 55, 56, 57, 97, 98, 99, 100, 101, 102]⟩ : ByteArray)[H.toNat]'(by show H.toNat < 16; omega) = A := ⟨_, rfl⟩
      obtain ⟨E, hE⟩ : ∃ E, (⟨#[48, 49, 50, 51, 52, 53, 54, 55, 56, 57, 97, 98, 99, 100, 101, 102]⟩ : ByteArray)[L.toNat]'(by show L.toNat < 16; omega) = E := ⟨_, rfl⟩
      have HA : Hid ((A.toNat : Int) = hexC H) := by unfold Hid; rw [← hA]; exact hex_get h0 h1
      have HE : Hid ((E.toNat : Int) = hexC L) := by unfold Hid; rw [← hE]; exact hex_get l0 l1
      have HW : Hid (∀ (X : World), ((X.alloc (.cells #[.int .u8 (A.toNat : Int), .int .u8 (E.toNat : Int)] 5)).drew).heap[X.heap.size]? = some (.cells #[.int .u8 (A.toNat : Int), .int .u8 (E.toNat : Int)] 5 (0, 0))) := fun X => heap_alloc_new X _
      have HOA : Hid ((wr.alloc (.cells #[.int .u8 (A.toNat : Int), .int .u8 (E.toNat : Int)] 5)).ownsRow w.heap.size 5 1 (.slice va (2 * k) vc) (2 * k) ((digL (zs.take k)).map (Value.int .u8))) := HO.out.alloc _
      go_wp2
      go_region_law (first | (refine step_append_lies _ rfl (.tmp 16) (.tmp 23) 22 rfl w.heap.size 5 i0 _ 1 1 Tryd.underlying22 I1.out I2.out I3.out I4.out rfl (by decide) _ (2 * k) ((digL (zs.take k)).map (Value.int .u8)) rfl HOA.out _ 2 2 [.int .u8 (A.toNat : Int), .int .u8 (E.toNat : Int)] rfl rfl (World.news_of_block (HW.out wr)) (by intro u hu; simp at hu; rcases hu with rfl | rfl <;> rfl) (by decide) (by unfold maxLen; omega) (by omega) (by have := HB.out.size; simp; omega) _ rfl ?_; rintro g4 c4 W8 hown4 hg4 hat4 hlt4; clear hat4))
      all_goals
        have hX : Below w.heap.size w (wr.alloc (.cells #[.int .u8 (A.toNat : Int), .int .u8 (E.toNat : Int)] 5)).drew := (HB.out.alloc HB.out.size _).drew
        have HB8 := Lib.hid (hX.trans (grown_below' HOA.out hg4 (by have := HB.out.size; simp; omega)))
        have HO8 := Lib.hid hown4
        clear hown4 hg4 hX hlt4
        simp only [Exit.inBlock, Exit.then]
        go_wp2
        go_roundw
        case rel =>
          refine ⟨k + 1, by omega, by go_num, ?_, HB8.out⟩
          rw [HT.out, List.map_append]
          have := HO8.out
          rw [HA.out, HE.out] at this
          exact this
        case measure => simp [intOf]; omega
    · obtain rfl : n = k := by omega
      have hT : zs.take n = zs := List.take_of_length_le (by rw [HN.out]; exact Nat.le_refl _)
      have hBY := own_bytes (T := digL zs) (by rw [digL_len, HN.out]; have := HO.out; rw [hT] at this; exact this) (digL_bd (bytes_mem HZ.out))
      obtain ⟨p', c', e1, h1, h2, _⟩ := hBY
      rw [digL_len, HN.out] at e1
      injection e1 with e2 e3 e4
      subst e2 e4
      have cv := conv_own h2 (show _ = 2 * n by rw [digL_len, HN.out]) vc
      clear h1 h2 hT
      rw [HSS.out] at cv
      go_wp2
      go_ret
      exact ⟨rfl, HB.out⟩
end Go.Proofs.YtneadcbadnicfaaDoor
