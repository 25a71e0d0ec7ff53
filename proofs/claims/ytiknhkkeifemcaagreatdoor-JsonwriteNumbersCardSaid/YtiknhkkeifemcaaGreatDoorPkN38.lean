/-
  The library's FormatUint, FormatInt, at base ten; the writer's decimal. Condition: the library's table of powers holds what the row lists.
-/
import Derived.Test.YtiknhkkeifemcaaGreatDoorPkN8
import Derived.Test.YtiknhkkeifemcaaGreatDoorPkN21
import Derived.Test.YtiknhkkeifemcaaGreatDoorPkN36
import Derived.Lib.Walk
import Derived.Lib.ItoaMem
import Derived.BigCall
import Derived.BigGuard
namespace Go.Proofs.YtiknhkkeifemcaaGreatDoor
open Go.ChangeShapes Go.WideShapes Go.ChangeAt Go.RowKit Go.Shelf

def PowT (w : World) : Prop := Lib.TabIs Tryz.prog w "internal/strconv.uint64pow10" .u64 Lib.pow10Tab
theorem pow_named : Tryz.prog.globalNamed "internal/strconv.uint64pow10" = some 0 := by kernel_rfl
theorem PowT.lt {w : World} (h : PowT w) : 0 < w.heap.size := by
  unfold PowT Lib.TabIs World.var? at h
  rw [pow_named] at h
  simp only [Option.bind_some] at h
  rcases Nat.lt_or_ge 0 w.heap.size with h' | h'
  · exact h'
  · rw [Array.getElem?_eq_none h'] at h; simp at h
theorem PowT.keep {w w' : World} (h : PowT w) (hb : w'.heap[0]? = w.heap[0]?) : PowT w' := by
  unfold PowT Lib.TabIs World.var? at h ⊢
  rw [pow_named] at h ⊢
  simp only [Option.bind_some] at h ⊢
  rw [hb]
  exact h
theorem PowT.below {w w' : World} (h : PowT w) (hb : Below w.heap.size w w') : PowT w' := h.keep (hb.block _ h.lt)
theorem dec_digits : ∀ (n : Nat), n ≤ maxU → (Lib.decDigits n).map (fun b : UInt8 => ((b.toNat : Nat) : Int)) = decDigs n := by
  intro n
  induction n using Nat.strongRecOn with
  | _ n ih =>
    intro hn
    by_cases h : n < 10
    · rw [Lib.decDigits, dif_pos h, decDigs_small (by omega), List.map_cons, List.map_nil, UInt8.toNat_ofNat', Nat.mod_eq_of_lt (by omega)]
      simp
    · rw [Lib.decDigits, dif_neg h, decDigs_step (by omega) hn, List.map_append, ih (n / 10) (by omega) (by omega), List.map_cons, List.map_nil, UInt8.toNat_ofNat', Nat.mod_eq_of_lt (by omega)]
      simp
theorem bts_list (l : List UInt8) : bts ⟨l.toArray⟩ = l.map (fun b : UInt8 => ((b.toNat : Nat) : Int)) := by unfold bts; simp
def DigS (l : List Int) (w : World) (e : Ending) (w' : World) : Prop := ∃ S : ByteArray, e = .returned (.string S) ∧ bts S = l ∧ S.size ≤ 22 ∧ Below w.heap.size w w'
theorem digS_len {S : ByteArray} {l : List Int} (h : bts S = l) (hl : l.length ≤ 22) : S.size ≤ 22 := by rw [← bts_length, h]; exact hl
theorem below_grow (w : World) (k : Nat) (os : Array Obj) : Below w.heap.size w (Go.Sort.grow (w.drewN k) os) :=
  ⟨rfl, rfl, rfl, by show w.heap.size ≤ (w.heap ++ os).size; rw [Array.size_append]; omega, fun j hj => by show (w.heap ++ os)[j]? = _; exact Array.getElem?_append_left hj⟩
theorem holds_zero0 (w : World) (T : TypeId) (nd : Nat) (hs : nd ≤ 24) : Go.Sort.Holds (fun (b : UInt8) => Value.int .u8 (b.toNat : Int)) (w.alloc (.cells Lib.zeros24 T)) w.heap.size 0 (Array.replicate nd (0 : UInt8)) := fun j hj => by
  have hj' : j < nd := by simpa using hj
  refine ⟨?_, World.frozen?_alloc_new _ _ _ _⟩
  rw [World.cell?_alloc_new, Lib.zeros24_at _ (by omega), getElem!_pos _ j hj]
  simp
theorem fin_zero (w : World) (o : Obj) (dk : Array UInt8) (k : Nat) : ∃ os, (Go.Sort.putRow (fun (b : UInt8) => Value.int .u8 (b.toNat : Int)) (w.alloc o) w.heap.size 0 dk).drewN k = Go.Sort.grow (w.drewN k) os := by
  rw [Go.Sort.alloc_eq_grow]
  obtain ⟨os', _, e⟩ := Go.Sort.putRow_grow_new (fun (b : UInt8) => Value.int .u8 (b.toNat : Int)) w #[o] w.heap.size 0 dk (Nat.le_refl _)
  exact ⟨os', by rw [e]; rfl⟩
section
open Go.Sort Go.Lib
set_option maxHeartbeats 6400000 in
set_option maxRecDepth 100000 in
theorem ufmt_any (u : Nat) (hu : u ≤ maxU) (w : World) (hT : PowT w) :
    Calls Tryz.prog 128 #[.int .u64 u, .int .i64 10] w (DigS (decDigs u) w) := by
  have hmx : maxU = 18446744073709551615 := rfl
  have HDL : Hid ((decDigs u).length ≤ 22) := Lib.hid (by have := decD_length 20 u; unfold decDigs; omega)
  have HDD := Lib.hid (dec_digits u hu)
  by_cases hs : u < 100
  · have hwr := IntWalk.i64_in (u : Int) ⟨by omega, by omega⟩
    have hsI : (u : Int) < 100 := by omega
    go_enter Tryz.func128, Tryz.ntmps128
    go_wp2_with fail
    refine (Tryz.internal_strconv_small u hs w).mono ?_
    rintro e w' ⟨rfl, rfl⟩
    have HB : Hid (bts ⟨(Lib.decDigits u).toArray⟩ = decDigs u) := Lib.hid (by rw [bts_list]; exact HDD.out)
    generalize (⟨(Lib.decDigits u).toArray⟩ : ByteArray) = S at *
    go_wp2
    go_ret
    exact ⟨S, rfl, HB.out, digS_len HB.out HDL.out, Below.refl _ _⟩
  · have hu1 : 1 ≤ u := by omega
    have hu64 : u < 18446744073709551616 := by omega
    have hsI : ¬ (u : Int) < 100 := by omega
    have hnd20 : Lib.nDigits u ≤ 20 := by have := Lib.numDigits_eq u hu1 hu64; split at this <;> omega
    have hal : Tryz.prog.arrayLen 244 = 24 := by simp [Program.arrayLen, Tryz.underlying244]
    have hsl1 : ∀ W, (Instr.sliceAt 244 (.pointer (some ⟨w.heap.size, 0, none⟩)) none (some (.int .i64 (Lib.nDigits u : Int))) none).run Tryz.prog W = .ok (.slice (some ⟨w.heap.size, 0, none⟩) (Lib.nDigits u) 24) W := fun W => by
      rw [run_sliceAt_array_h W 244 ⟨w.heap.size, 0, none⟩ (by simp [Program.arrayLen, Program.elem, Tryz.underlying244]) .i64 (Lib.nDigits u : Int) (by omega) (by rw [hal]; omega)]
      go_simp
    have hH0 := holds_zero0 w 244 (Lib.nDigits u) (by omega)
    have hfmt := Tryz.internal_strconv_formatBase10 w.heap.size 0 24 u (Array.replicate (Lib.nDigits u) 0) (w.alloc (.cells Lib.zeros24 244)) hH0 (by rw [Array.size_replicate]; exact Lib.lt_pow_nDigits u) hu64 (by rw [Array.size_replicate]; omega)
    rw [Array.size_replicate] at hfmt
    have HH0 := Lib.hid hH0
    have HND := Lib.hid (Tryz.internal_strconv_numDigits u hu1 hu64 (w.alloc (.cells Lib.zeros24 244)) (Lib.tabIs_alloc hT _))
    clear hH0 hal hT
    go_enter Tryz.func128, Tryz.ntmps128
    go_wp2_with (first
      | (go_at_call 157; refine HND.out.mono ?_; rintro e w' ⟨rfl, rfl⟩))
    go_at_call 158
    refine hfmt.mono ?_
    rintro e w' ⟨rfl, k, v', dk, rfl, hF⟩
    have hcv : (convert 22 9 (.slice (some ⟨w.heap.size, 0, none⟩) (Lib.nDigits u) 24)).run Tryz.prog ((putRow (fun (b : UInt8) => Value.int .u8 (b.toNat : Int)) (w.alloc (.cells Lib.zeros24 244)) w.heap.size 0 dk).drewN k) = .ok (.string ⟨(Lib.decDigits u).toArray⟩) ((putRow (fun (b : UInt8) => Value.int .u8 (b.toNat : Int)) (w.alloc (.cells Lib.zeros24 244)) w.heap.size 0 dk).drewN k) := by
      have h := run_convert_bytes_back (P := Tryz.prog) ((putRow (fun (b : UInt8) => Value.int .u8 (b.toNat : Int)) (w.alloc (.cells Lib.zeros24 244)) w.heap.size 0 dk).drewN k) 22 9 5 ⟨w.heap.size, 0, none⟩ 24 (Lib.decDigits u) Tryz.underlying22 Tryz.underlying5 Tryz.underlying9 (fun j hj => by
        rw [Lib.row_is_numeral hF j hj, Lib.add_plain, World.cell?_drewN]
        exact cell?_putRow (fun (b : UInt8) => Value.int .u8 (b.toNat : Int)) _ w.heap.size 0 _ dk HH0.out (by rw [hF.size, Array.size_replicate]) j (by rw [hF.size]; rw [Lib.decDigits_length] at hj; exact hj))
      rw [Lib.decDigits_length] at h
      exact h
    obtain ⟨os, eo⟩ := fin_zero w (.cells Lib.zeros24 244) dk k
    have HBW : Hid (Below w.heap.size w ((putRow (fun (b : UInt8) => Value.int .u8 (b.toNat : Int)) (w.alloc (.cells Lib.zeros24 244)) w.heap.size 0 dk).drewN k)) := Lib.hid (by rw [eo]; exact below_grow w k os)
    have HB : Hid (bts ⟨(Lib.decDigits u).toArray⟩ = decDigs u) := Lib.hid (by rw [bts_list]; exact HDD.out)
    clear eo
    go_wp2
    go_ret
    exact ⟨_, rfl, HB.out, digS_len HB.out HDL.out, HBW.out⟩
end
theorem sufmt_any (u : Nat) (hu : u ≤ maxU) (w : World) (hT : PowT w) :
    Calls Tryz.prog 98 #[.int .u64 u, .int .i64 10] w (DigS (decDigs u) w) := by
  have H := Lib.hid (ufmt_any u hu w hT)
  clear hT
  go_enter Tryz.func98, Tryz.ntmps98
  go_wp2_with fail
  refine H.out.mono ?_
  rintro e w' ⟨S, rfl, h1, h2, h3⟩
  have H1 := Lib.hid h1
  have H2 := Lib.hid h2
  have H3 := Lib.hid h3
  clear h1 h2 h3
  go_wp2
  go_ret
  exact ⟨S, rfl, H1.out, H2.out, H3.out⟩
theorem sifmt_any (n : Nat) (hn : n ≤ maxU) (w : World) (hT : PowT w) :
    Calls Tryz.prog 97 #[.int .i64 (IntKind.i64.wrap (n : Int)), .int .i64 10] w (DigS (if 9223372036854775808 ≤ n then 45 :: decDigs (18446744073709551616 - n) else decDigs n) w) := by
  have hmx : maxU = 18446744073709551615 := rfl
  obtain ⟨l, hl⟩ : ∃ l, (if 9223372036854775808 ≤ n then 45 :: decDigs (18446744073709551616 - n) else decDigs n) = l := ⟨_, rfl⟩
  rw [hl]
  have hwr : IntKind.i64.wrap (n : Int) = if 9223372036854775808 ≤ n then -((18446744073709551616 - n : Nat) : Int) else (n : Int) := by
    rw [IntKind.wrap_i64]
    split <;> omega
  have HI : Hid ((Lib.itoa (IntKind.i64.wrap (n : Int))).map (fun b : UInt8 => ((b.toNat : Nat) : Int)) = l) := Lib.hid (by
    rw [hwr, ← hl]
    split
    · rw [Lib.itoa_neg _ (by omega), List.map_cons, dec_digits _ (by omega)]
      rfl
    · rw [Lib.itoa_nonneg, dec_digits _ hn])
  have HL : Hid (l.length ≤ 22) := Lib.hid (by
    rw [← hl]
    have h1 := decD_length 20 n
    have h2 := decD_length 20 (18446744073709551616 - n)
    unfold decDigs
    split
    · rw [List.length_cons]; omega
    · omega)
  have hb : -9223372036854775808 ≤ IntKind.i64.wrap (n : Int) ∧ IntKind.i64.wrap (n : Int) ≤ 9223372036854775807 := by
    rw [hwr]
    split <;> omega
  have H := Lib.hid (Tryz.internal_strconv_FormatInt_10 (IntKind.i64.wrap (n : Int)) hb.1 hb.2 w hT)
  generalize IntKind.i64.wrap (n : Int) = z at *
  clear hT hl hwr hb
  go_enter Tryz.func97, Tryz.ntmps97
  go_wp2_with fail
  refine H.out.mono ?_
  rintro e w' ⟨rfl, k, os, hw⟩
  have HB : Hid (Below w.heap.size w w') := Lib.hid (by rw [hw]; exact below_grow w k os)
  have HS : Hid (bts ⟨(Lib.itoa z).toArray⟩ = l) := Lib.hid (by rw [bts_list]; exact HI.out)
  generalize (⟨(Lib.itoa z).toArray⟩ : ByteArray) = S at *
  clear hw H HI
  go_wp2
  go_ret
  exact ⟨S, rfl, HS.out, digS_len HS.out HL.out, HB.out⟩
theorem jdec_any (k n : Nat) (hn : n ≤ maxU) (w : World) (hT : PowT w) :
    Calls Tryz.prog 63 #[.int .u8 k, .int .u64 n] w (DigS (decS k n) w) := by
  have HU := Lib.hid (sufmt_any n hn w hT)
  have HI := Lib.hid (sifmt_any n hn w hT)
  have HE : Hid (decS k n = if kSign k = true then (if 9223372036854775808 ≤ n then 45 :: decDigs (18446744073709551616 - n) else decDigs n) else decDigs n) := Lib.hid (by
    unfold decS
    by_cases h1 : kSign k = true
    · rw [if_pos h1]
      by_cases h2 : 9223372036854775808 ≤ n
      · rw [if_pos ⟨h1, h2⟩, if_pos h2]
      · rw [if_neg (fun h => h2 h.2), if_neg h2]
    · rw [if_neg (fun h => h1 h.1), if_neg h1])
  obtain ⟨l, hl⟩ : ∃ l, decS k n = l := ⟨_, rfl⟩
  obtain ⟨l2, hl2⟩ : ∃ l2, (if 9223372036854775808 ≤ n then 45 :: decDigs (18446744073709551616 - n) else decDigs n) = l2 := ⟨_, rfl⟩
  rw [hl, hl2] at HE
  rw [hl2] at HI
  rw [hl]
  obtain ⟨z, hz⟩ : ∃ z, IntKind.i64.wrap (n : Int) = z := ⟨_, rfl⟩
  rw [hz] at HI
  have HSG := Lib.hid (fun W => wsign_any (k : Int) W)
  clear hT hl hl2
  cases hs : kSign (k : Int)
  · have HE2 : Hid (l = decDigs n) := Lib.hid (HE.out.trans (if_neg (by rw [hs]; decide)))
    rw [hs] at HSG
    rw [HE2.out]
    clear HE hs
    go_enter Tryz.func63, Tryz.ntmps63
    go_wp2_with fail
    refine (HSG.out w).mono ?_
    rintro e w1 ⟨rfl, rfl⟩
    go_wp2_with fail
    refine HU.out.mono ?_
    rintro e w' ⟨S, rfl, h1, h2, h3⟩
    have H1 := Lib.hid h1
    have H2 := Lib.hid h2
    have H3 := Lib.hid h3
    clear h1 h2 h3 HU HI
    go_wp2
    go_ret
    exact ⟨S, rfl, H1.out, H2.out, H3.out⟩
  · have HE2 := Lib.hid (HE.out.trans (if_pos hs))
    rw [hs] at HSG
    rw [HE2.out]
    clear HE hs
    go_enter Tryz.func63, Tryz.ntmps63
    go_wp2_with fail
    refine (HSG.out w).mono ?_
    rintro e w1 ⟨rfl, rfl⟩
    go_wp2_with fail
    refine HI.out.mono ?_
    rintro e w' ⟨S, rfl, h1, h2, h3⟩
    have H1 := Lib.hid h1
    have H2 := Lib.hid h2
    have H3 := Lib.hid h3
    clear h1 h2 h3 HU HI
    go_wp2
    go_ret
    exact ⟨S, rfl, H1.out, H2.out, H3.out⟩
end Go.Proofs.YtiknhkkeifemcaaGreatDoor
