/-
  The package lex's Number: the number that a text says. Conditions: those that each theorem names; the library's tables and its variable ErrRange hold what the row lists.
-/
import Derived.Test.YtleclhnlojalbaaGreatDoorPkW11
import Derived.Test.YtleclhnlojalbaaGreatDoorPkW12
import Derived.Test.YtleclhnlojalbaaGreatDoorRows
import Derived.Shelf.Pu.ParseUintPublic10
import Derived.Lib.ConvBytes
import Derived.Lib.AtoiErrMem
namespace Go.Proofs.YtleclhnlojalbaaGreatDoor
open Go.Proofs Go.Shelf
def Tryz.laysPu14_ren : Go.Shelf.Ren := ⟨fun | 14 => 157 | 16 => 169 | 17 => 170 | 19 => 172 | 20 => 173 | 21 => 174 | 22 => 175 | 23 => 176 | 24 => 177 | 25 => 107 | 27 => 179 | 26 => 178 | 28 => 180 | 29 => 181 | 30 => 182 | 31 => 183 | 32 => 184 | 33 => 185 | 35 => 187 | 34 => 186 | 36 => 188 | 37 => 189 | 38 => 190 | 39 => 191 | 40 => 192 | n => n, fun | 9 => 9 | 3 => 3 | 22 => 49 | 24 => 215 | 25 => 216 | 4 => 4 | 34 => 230 | 5 => 5 | 36 => 37 | 37 => 24 | 0 => 0 | 39 => 232 | 21 => 21 | 44 => 236 | 47 => 200 | 50 => 241 | 48 => 239 | 2 => 2 | 52 => 243 | 55 => 245 | 59 => 248 | 60 => 220 | 20 => 20 | 61 => 249 | 65 => 250 | 66 => 251 | 67 => 252 | n => n, fun | 0 => 3 | 1 => 4 | 2 => 5 | 3 => 6 | 4 => 7 | n => n⟩
theorem Tryz.laysPu14 : Go.Proofs.LaysPu.n14 Tryz.prog Tryz.laysPu14_ren := {
  mixed := by kernel_rfl
  f14 := Tryz.func157.trans (congrArg some (by kernel_rfl))
  f16 := Tryz.func169.trans (congrArg some (by kernel_rfl))
  f17 := Tryz.func170.trans (congrArg some (by kernel_rfl))
  f19 := Tryz.func172.trans (congrArg some (by kernel_rfl))
  f20 := Tryz.func173.trans (congrArg some (by kernel_rfl))
  f21 := Tryz.func174.trans (congrArg some (by kernel_rfl))
  f22 := Tryz.func175.trans (congrArg some (by kernel_rfl))
  f23 := Tryz.func176.trans (congrArg some (by kernel_rfl))
  f24 := Tryz.func177.trans (congrArg some (by kernel_rfl))
  f25 := Tryz.func107.trans (congrArg some (by kernel_rfl))
  f26 := Tryz.func178.trans (congrArg some (by kernel_rfl))
  f27 := Tryz.func179.trans (congrArg some (by kernel_rfl))
  f28 := Tryz.func180.trans (congrArg some (by kernel_rfl))
  f29 := Tryz.func181.trans (congrArg some (by kernel_rfl))
  f30 := Tryz.func182.trans (congrArg some (by kernel_rfl))
  f31 := Tryz.func183.trans (congrArg some (by kernel_rfl))
  f32 := Tryz.func184.trans (congrArg some (by kernel_rfl))
  f33 := Tryz.func185.trans (congrArg some (by kernel_rfl))
  f34 := Tryz.func186.trans (congrArg some (by kernel_rfl))
  f35 := Tryz.func187.trans (congrArg some (by kernel_rfl))
  f36 := Tryz.func188.trans (congrArg some (by kernel_rfl))
  f37 := Tryz.func189.trans (congrArg some (by kernel_rfl))
  f38 := Tryz.func190.trans (congrArg some (by kernel_rfl))
  f39 := Tryz.func191.trans (congrArg some (by kernel_rfl))
  f40 := Tryz.func192.trans (congrArg some (by kernel_rfl))
  t0 := Tryz.underlying0
  a0 := Tryz.isAgg0
  z0 := Tryz.sizeOf0
  v0 := Tryz.zeroValue0
  i0 := by kernel_rfl
  t2 := Tryz.underlying2
  a2 := Tryz.isAgg2
  z2 := Tryz.sizeOf2
  v2 := Tryz.zeroValue2
  i2 := by kernel_rfl
  t3 := Tryz.underlying3
  a3 := Tryz.isAgg3
  z3 := Tryz.sizeOf3
  v3 := Tryz.zeroValue3
  i3 := by kernel_rfl
  t4 := Tryz.underlying4
  a4 := Tryz.isAgg4
  z4 := Tryz.sizeOf4
  v4 := Tryz.zeroValue4
  i4 := by kernel_rfl
  t5 := Tryz.underlying5
  a5 := Tryz.isAgg5
  z5 := Tryz.sizeOf5
  v5 := Tryz.zeroValue5
  i5 := by kernel_rfl
  t9 := Tryz.underlying9
  a9 := Tryz.isAgg9
  z9 := Tryz.sizeOf9
  v9 := Tryz.zeroValue9
  i9 := by kernel_rfl
  t20 := Tryz.underlying20
  a20 := Tryz.isAgg20
  z20 := Tryz.sizeOf20
  v20 := Tryz.zeroValue20
  i20 := by kernel_rfl
  t21 := Tryz.underlying21
  a21 := Tryz.isAgg21
  z21 := Tryz.sizeOf21
  v21 := Tryz.zeroValue21
  i21 := by kernel_rfl
  t22 := Tryz.underlying49
  a22 := Tryz.isAgg49
  z22 := Tryz.sizeOf49
  v22 := Tryz.zeroValue49
  i22 := by kernel_rfl
  t24 := Tryz.underlying215
  a24 := Tryz.isAgg215
  z24 := Tryz.sizeOf215
  v24 := Tryz.zeroValue215
  i24 := by kernel_rfl
  t25 := Tryz.underlying216
  a25 := Tryz.isAgg216
  z25 := Tryz.sizeOf216
  v25 := Tryz.zeroValue216
  i25 := by kernel_rfl
  t34 := Tryz.underlying230
  a34 := Tryz.isAgg230
  z34 := Tryz.sizeOf230
  v34 := Tryz.zeroValue230
  i34 := by kernel_rfl
  c34 := by kernel_rfl
  t36 := Tryz.underlying37
  a36 := Tryz.isAgg37
  z36 := Tryz.sizeOf37
  v36 := Tryz.zeroValue37
  i36 := by kernel_rfl
  t37 := Tryz.underlying24
  a37 := Tryz.isAgg24
  z37 := Tryz.sizeOf24
  v37 := Tryz.zeroValue24
  i37 := by kernel_rfl
  t39 := Tryz.underlying232
  a39 := Tryz.isAgg232
  z39 := Tryz.sizeOf232
  v39 := Tryz.zeroValue232
  i39 := by kernel_rfl
  t44 := Tryz.underlying236
  a44 := Tryz.isAgg236
  z44 := Tryz.sizeOf236
  v44 := Tryz.zeroValue236
  i44 := by kernel_rfl
  t47 := Tryz.underlying200
  a47 := Tryz.isAgg200
  z47 := Tryz.sizeOf200
  v47 := Tryz.zeroValue200
  i47 := by kernel_rfl
  t48 := Tryz.underlying239
  a48 := Tryz.isAgg239
  z48 := Tryz.sizeOf239
  v48 := Tryz.zeroValue239
  i48 := by kernel_rfl
  t50 := Tryz.underlying241
  a50 := Tryz.isAgg241
  z50 := Tryz.sizeOf241
  v50 := Tryz.zeroValue241
  i50 := by kernel_rfl
  t52 := Tryz.underlying243
  a52 := Tryz.isAgg243
  z52 := Tryz.sizeOf243
  v52 := Tryz.zeroValue243
  i52 := by kernel_rfl
  t55 := Tryz.underlying245
  a55 := Tryz.isAgg245
  z55 := Tryz.sizeOf245
  v55 := Tryz.zeroValue245
  i55 := by kernel_rfl
  t59 := Tryz.underlying248
  a59 := Tryz.isAgg248
  z59 := Tryz.sizeOf248
  v59 := Tryz.zeroValue248
  i59 := by kernel_rfl
  t60 := Tryz.underlying220
  a60 := Tryz.isAgg220
  z60 := Tryz.sizeOf220
  v60 := Tryz.zeroValue220
  i60 := by kernel_rfl
  t61 := Tryz.underlying249
  a61 := Tryz.isAgg249
  z61 := Tryz.sizeOf249
  t65 := Tryz.underlying250
  a65 := Tryz.isAgg250
  z65 := Tryz.sizeOf250
  v65 := Tryz.zeroValue250
  i65 := by kernel_rfl
  t66 := Tryz.underlying251
  a66 := Tryz.isAgg251
  z66 := Tryz.sizeOf251
  v66 := Tryz.zeroValue251
  i66 := by kernel_rfl
  t67 := Tryz.underlying252
  a67 := Tryz.isAgg252
  z67 := Tryz.sizeOf252
  v67 := Tryz.zeroValue252
  i67 := by kernel_rfl
  g0 := by kernel_rfl
  m0 := by kernel_rfl
  g1 := by kernel_rfl
  m1 := by kernel_rfl
  g2 := by kernel_rfl
  m2 := by kernel_rfl
  g3 := by kernel_rfl
  m3 := by kernel_rfl
  g4 := by kernel_rfl
  m4 := by kernel_rfl }
open Go.RowKit in
theorem Tryz.strconv_ParseUint_10_at64_ok (s : ByteArray) (hmax : s.size ≤ 9223372036854775806) (u : Nat) (h : Lib.parseUintB 64 s.data.toList = .ok u) (w : World) :
    Calls Tryz.prog 157 #[.string s, .int .i64 10, .int .i64 64] w fun e w' => e = .returned (.tuple #[.int .u64 u, .nilIface]) ∧ (w' = w ∨ w' = Lib.bytesWorld w 5 s) := Any.strconv_ParseUint_10_at64_ok Tryz.laysPu14 s hmax u h w
open Go.RowKit in
theorem Tryz.strconv_ParseUint_10_at64_range (s : ByteArray) (hlim : s.size ≤ 281474976710656) (h : Lib.parseUintB 64 s.data.toList = .range) (ev : Value) (w : World) (hv : w.cell? ⟨4, 0, none⟩ = some ev) (hev : ev = .nilIface ∨ ∃ te pe, ev = .iface te pe) :
    Calls Tryz.prog 157 #[.string s, .int .i64 10, .int .i64 64] w fun e w' => ∃ N, e = .returned (.tuple #[.int .u64 18446744073709551615, .iface 232 (.pointer (some ⟨N, 0, none⟩))]) ∧ w.heap.size ≤ N ∧ w'.heap[N]? = some (.cells #[.string ⟨#[80, 97, 114, 115, 101, 85, 105, 110, 116]⟩, .string s, ev] 236 (0, 0)) ∧ Below w.heap.size w w' := Any.strconv_ParseUint_10_at64_range Tryz.laysPu14 s hlim h ev w hv hev
end Go.Proofs.YtleclhnlojalbaaGreatDoor
namespace Go.Proofs.YtleclhnlojalbaaGreatDoor
open Go.ChangeShapes Go.WideShapes Go.ChangeAt Go.RowKit Go.Shelf

def ErrV (w : World) : Prop := ∃ t v, w.cell? ⟨4, 0, none⟩ = some (.iface t v)
theorem ErrV.later {w w' : World} (h : ErrV w) (hb : Below w.heap.size w w') : ErrV w' := by
  obtain ⟨t, v, h⟩ := h
  exact ⟨t, v, (hb.cell (p := ⟨4, 0, none⟩) (World.block_lt_of_cell? _ _ h)).trans h⟩
def numR : Option Nat → Value
  | none => .tuple #[.int .u64 0, .bool false]
  | some n => .tuple #[.int .u64 (n : Nat), .bool true]
theorem minus_prefix (s : ByteArray) : Lib.hasPrefix s.data.toList (ByteArray.mk #[45]).data.toList = stA (bts s) (isC 45) 0 := by
  unfold Lib.hasPrefix bts stA
  cases s.data.toList with
  | nil => simp [List.isPrefixOf]
  | cons a r =>
    simp only [List.map_cons, List.length_cons, List.getD_cons_zero, isC]
    rw [decide_eq_true (by omega), Bool.true_and]
    simp only [List.isPrefixOf, Bool.and_true]
    rw [Bool.eq_iff_iff, beq_iff_eq, decide_eq_true_iff, ← UInt8.toNat_inj]
    constructor
    · intro h; rw [← h]; rfl
    · intro h
      have : a.toNat = 45 := by omega
      rw [this]; rfl
theorem minus_trim (s : ByteArray) : (Lib.trimPrefix s.data.toList (ByteArray.mk #[45]).data.toList).map (fun b => (b.toNat : Int)) = digs (bts s) := by
  unfold Lib.trimPrefix digs
  rw [minus_prefix]
  split
  · simp [bts]
  · rfl
theorem trim_size (s p : List UInt8) : (Lib.trimPrefix s p).length ≤ s.length := by
  unfold Lib.trimPrefix
  split <;> simp
theorem parse_digs (s : ByteArray) (h : goodN (bts s) = true) :
    Lib.parseUintB 64 (Lib.trimPrefix s.data.toList (ByteArray.mk #[45]).data.toList) = if decF 0 (digs (bts s)) ≤ maxU then .ok (decF 0 (digs (bts s))) else .range := by
  obtain ⟨h1, h2⟩ := good_digs h
  rw [← minus_trim] at h1 h2 ⊢
  refine parseUintB_dec _ (fun he => h1 (by rw [he]; rfl)) (fun b hb => ?_)
  have := h2 _ (List.mem_map_of_mem hb)
  omega
theorem sized_iff (size : Int) : sizedB size = true ↔ (size = 1 ∨ size = 2 ∨ size = 4 ∨ size = 8) := by unfold sizedB; rw [decide_eq_true_iff]
theorem numV_bad1 {zs : List Int} {size : Int} {sign : Bool} (h : numBad zs 0 = true) : numV zs size sign = none := by
  unfold numV goodN
  rw [if_neg (by rw [h]; rintro ⟨h, _⟩; cases h)]
theorem numV_bad2 {zs : List Int} {size : Int} {sign : Bool} (h : numEnd zs 0 ≠ zs.length) : numV zs size sign = none := by
  unfold numV goodN
  rw [if_neg (by rw [decide_eq_false h, Bool.and_false]; rintro ⟨h, _⟩; cases h)]
theorem numV_bad3 {zs : List Int} {size : Int} {sign : Bool} (h : ¬ (size = 1 ∨ size = 2 ∨ size = 4 ∨ size = 8)) : numV zs size sign = none := by
  unfold numV
  rw [if_neg (fun hh => h ((sized_iff size).1 hh.2.1))]
theorem numV_bad4 {zs : List Int} {size : Int} {sign : Bool} (h : ¬ decF 0 (digs zs) ≤ maxU) : numV zs size sign = none := by
  unfold numV
  rw [if_neg (fun hh => h hh.2.2.1)]
theorem numV_bad5 {zs : List Int} {size : Int} {sign : Bool} (h : fitsB (decF 0 (digs zs)) (stA zs (isC 45) 0) size sign = false) : numV zs size sign = none := by
  unfold numV
  rw [if_neg (fun hh => by have := hh.2.2.2; rw [h] at this; cases this)]
theorem numV_yes {zs : List Int} {size : Int} {sign : Bool} (h1 : numBad zs 0 = false) (h2 : numEnd zs 0 = zs.length) (h3 : size = 1 ∨ size = 2 ∨ size = 4 ∨ size = 8) (h4 : decF 0 (digs zs) ≤ maxU) (h5 : fitsB (decF 0 (digs zs)) (stA zs (isC 45) 0) size sign = true) :
    numV zs size sign = some (if stA zs (isC 45) 0 = true then (18446744073709551616 - decF 0 (digs zs)) % 18446744073709551616 else decF 0 (digs zs)) := by
  unfold numV
  rw [if_pos ⟨by unfold goodN; rw [h1, decide_eq_true h2]; rfl, (sized_iff size).2 h3, h4, h5⟩]
theorem below_bytes {B : Nat} {w W : World} (h : Below B w W) (hB : B ≤ W.heap.size) (e : TypeId) (s : ByteArray) : Below B w (Lib.bytesWorld W e s) := h.trans ((Lib.bytesWorld_below W e s).mono hB)
theorem bytes_new (w : World) (s : ByteArray) : Bytes (Lib.bytesWorld w 5 s) (some ⟨w.heap.size, 0, none⟩) (bts s) := by
  refine ⟨bts_bd s, fun _ => ⟨w.heap.size, 0, rfl, by rw [Lib.bytesWorld_size]; omega, fun i hi => ?_⟩⟩
  rw [bts_length] at hi
  rw [Nat.zero_add, Lib.bytesWorld_cell w _ s i hi]
  simp [bts, List.getD, hi]
theorem lexNumber_bad (s : ByteArray) (size : Int) (sign : Bool) (w : World) (hs : s.size ≤ 281474976710656) (h : numBad (bts s) 0 = true ∨ (numBad (bts s) 0 = false ∧ (numEnd (bts s) 0 ≠ s.size ∨ (numEnd (bts s) 0 = s.size ∧ ¬ (size = 1 ∨ size = 2 ∨ size = 4 ∨ size = 8))))) :
    Calls Tryz.prog 136 #[.string s, .int .i64 size, .bool sign] w fun e w' => e = .returned (.tuple #[.int .u64 0, .bool false]) ∧ Below w.heap.size w w' := by
  have kc := fun W => Lib.run_convert_string_bytes (P := Tryz.prog) W 9 24 5 s Tryz.underlying9 Tryz.underlying24 Tryz.underlying5
  have H := Lib.hid h
  clear h
  go_enter Tryz.func136, Tryz.ntmps136
  go_wp2_with fail
  refine (number_any _ s.size _ 0 _ (bts s) _ rfl (bytes_new w s) (bts_length s) hs (Nat.zero_le _)).mono ?_
  rintro e W1 ⟨rfl, hb1⟩
  have HB1 := Lib.hid ((below_bytes (Below.refl _ _) (Nat.le_refl _) 5 s).trans (hb1.mono (by rw [Lib.bytesWorld_size]; omega)))
  clear hb1
  rcases H.out with h | ⟨h, h2⟩
  · rw [show numVal (bts s) 0 = _ from if_pos h]
    clear h
    go_wp2
    go_ret2
    exact ⟨rfl, HB1.out⟩
  · rw [show numVal (bts s) 0 = _ from if_neg (by rw [h]; decide)]
    generalize numEnd (bts s) 0 = E at h2
    rcases h2 with h2 | ⟨h2, h3⟩
    · have t : ((E : Int) != (s.size : Int)) = true := by simp; omega
      clear h h2
      go_wp2
      go_ret2
      exact ⟨rfl, HB1.out⟩
    · have t : ((E : Int) != (s.size : Int)) = false := by simp; omega
      have H3 := Lib.hid h3
      clear h h2 h3
      go_wp2_with fail
      refine (sized_no size _ H3.out).mono ?_
      rintro e W2 ⟨rfl, rfl⟩
      go_wp2
      go_ret2
      exact ⟨rfl, HB1.out⟩
theorem digs_str (s : ByteArray) (h : goodN (bts s) = true) : ∃ d : ByteArray, (⟨(Lib.trimPrefix s.data.toList (ByteArray.mk #[45]).data.toList).toArray⟩ : ByteArray) = d ∧ d.size ≤ s.size ∧ Lib.parseUintB 64 d.data.toList = if decF 0 (digs (bts s)) ≤ maxU then .ok (decF 0 (digs (bts s))) else .range := by
  refine ⟨_, rfl, ?_, ?_⟩
  · have := trim_size s.data.toList (ByteArray.mk #[45]).data.toList
    have e1 : s.data.toList.length = s.size := by simp
    simp only [ByteArray.size, List.size_toArray]
    simp only [ByteArray.size] at e1
    omega
  · exact parse_digs s h
theorem neg_wrap (V : Nat) (h : (V : Int) ≤ 18446744073709551615) : IntKind.u64.wrap (-(V : Int)) = (((18446744073709551616 - V) % 18446744073709551616 : Nat) : Int) := by
  rw [IntKind.wrap_u64]
  omega
set_option maxHeartbeats 800000 in
theorem lexNumber_good (s : ByteArray) (size : Int) (sign : Bool) (w : World) (hE : ErrV w) (hs : s.size ≤ 281474976710656) (h1 : numBad (bts s) 0 = false) (h2 : numEnd (bts s) 0 = s.size) (h3 : size = 1 ∨ size = 2 ∨ size = 4 ∨ size = 8) :
    Calls Tryz.prog 136 #[.string s, .int .i64 size, .bool sign] w fun e w' => e = .returned (numR (numV (bts s) size sign)) ∧ Below w.heap.size w w' := by
  have kc := fun W => Lib.run_convert_string_bytes (P := Tryz.prog) W 9 24 5 s Tryz.underlying9 Tryz.underlying24 Tryz.underlying5
  obtain ⟨d, hd, hds, hp⟩ := digs_str s (by unfold goodN; rw [h1, decide_eq_true (by rw [h2, bts_length])]; rfl)
  have HY := Lib.hid (fun h4 h5 => numV_yes (sign := sign) h1 (by rw [h2, bts_length]) h3 h4 h5)
  have HB4 := Lib.hid (fun h => numV_bad4 (zs := bts s) (size := size) (sign := sign) h)
  have HB5 := Lib.hid (fun h => numV_bad5 (zs := bts s) (size := size) (sign := sign) h)
  have HC := Lib.hid (Tryz.strings_CutPrefix s (ByteArray.mk #[45]))
  have HM := Lib.hid (minus_prefix s)
  have HNV : Hid (numVal (bts s) 0 = .tuple #[.int .i64 (numEnd (bts s) 0 : Nat), .bool true]) := if_neg (by rw [h1]; decide)
  rw [h2] at HNV
  have H3 := Lib.hid h3
  have HD := Lib.hid hd
  have HP := Lib.hid hp
  have HEV := Lib.hid hE
  generalize numV (bts s) size sign = r at HY HB4 HB5 ⊢
  clear h1 h2 h3 hd hp hE
  go_enter Tryz.func136, Tryz.ntmps136
  go_wp2_with fail
  refine (number_any _ s.size _ 0 _ (bts s) _ rfl (bytes_new w s) (bts_length s) hs (Nat.zero_le _)).mono ?_
  rintro e W1 ⟨rfl, hb1⟩
  have HB1 := Lib.hid ((below_bytes (Below.refl _ _) (Nat.le_refl _) 5 s).trans (hb1.mono (by rw [Lib.bytesWorld_size]; omega)))
  clear hb1
  rw [HNV.out]
  have t : ((s.size : Int) != (s.size : Int)) = false := by simp
  go_wp2_with fail
  refine (sized_yes size _ H3.out).mono ?_
  rintro e W2 ⟨rfl, rfl⟩
  go_wp2_with fail
  refine (HC.out W1).mono ?_
  rintro e W3 ⟨rfl, rfl⟩
  rw [HM.out, HD.out]
  generalize stA (bts s) (isC 45) 0 = b at HY HB5 ⊢
  generalize decF 0 (digs (bts s)) = V at HY HB4 HB5 HP
  by_cases hV : V ≤ maxU
  · have hP := HP.out
    rw [if_pos hV] at hP
    have HP' := Lib.hid hP
    have HV := Lib.hid hV
    have hv1 : (V : Int) ≤ 18446744073709551615 := Int.ofNat_le.2 hV
    clear hV hP
    go_wp2_with fail
    refine (Tryz.strconv_ParseUint_10_at64_ok d (by omega) V HP'.out W3).mono ?_
    rintro e W4 ⟨rfl, hw⟩
    have HB4' : Hid (Below w.heap.size w W4) := by
      rcases hw with rfl | rfl
      · exact HB1.out
      · exact below_bytes HB1.out HB1.out.size _ _
    clear hw
    go_wp2_with fail
    refine (fits_any V b size sign _ (by omega) H3.out).mono ?_
    rintro e W5 ⟨rfl, rfl⟩
    cases hf : fitsB (V : Int) b size sign
    · have HR := Lib.hid (HB5.out hf)
      clear hf
      go_wp2
      go_ret2
      exact ⟨by rw [HR.out]; rfl, HB4'.out⟩
    · have HR := Lib.hid (HY.out HV.out hf)
      clear hf
      cases b
      · rw [if_neg (by decide)] at HR
        go_wp2
        go_ret2
        exact ⟨by rw [HR.out]; rfl, HB4'.out⟩
      · rw [if_pos rfl] at HR
        go_wp2
        go_ret2
        exact ⟨(ret_int_bool (neg_wrap V hv1)).trans (by rw [HR.out]; rfl), HB4'.out⟩
  · have hP := HP.out
    rw [if_neg hV] at hP
    have HP' := Lib.hid hP
    have HR := Lib.hid (HB4.out hV)
    obtain ⟨te, ev, hev⟩ := HEV.out.later HB1.out
    have HX := Lib.hid hev
    clear hV hP hev
    go_wp2_with fail
    refine (Tryz.strconv_ParseUint_10_at64_range d (by omega) HP'.out _ W3 HX.out (.inr ⟨te, ev, rfl⟩)).mono ?_
    rintro e W4 ⟨N, rfl, hN, hN2, hb⟩
    clear hN hN2
    go_wp2
    go_ret2
    exact ⟨by rw [HR.out]; rfl, HB1.out.trans (hb.mono HB1.out.size)⟩
theorem lexNumber_any (s : ByteArray) (size : Int) (sign : Bool) (w : World) (hE : ErrV w) (hs : s.size ≤ 281474976710656) :
    Calls Tryz.prog 136 #[.string s, .int .i64 size, .bool sign] w fun e w' => e = .returned (numR (numV (bts s) size sign)) ∧ Below w.heap.size w w' := by
  cases h1 : numBad (bts s) 0
  · by_cases h2 : numEnd (bts s) 0 = s.size
    · by_cases h3 : size = 1 ∨ size = 2 ∨ size = 4 ∨ size = 8
      · exact lexNumber_good s size sign w hE hs h1 h2 h3
      · rw [numV_bad3 h3]
        exact lexNumber_bad s size sign w hs (.inr ⟨h1, .inr ⟨h2, h3⟩⟩)
    · rw [numV_bad2 (by rw [bts_length]; exact h2)]
      exact lexNumber_bad s size sign w hs (.inr ⟨h1, .inl h2⟩)
  · rw [numV_bad1 h1]
    exact lexNumber_bad s size sign w hs (.inl h1)
end Go.Proofs.YtleclhnlojalbaaGreatDoor
