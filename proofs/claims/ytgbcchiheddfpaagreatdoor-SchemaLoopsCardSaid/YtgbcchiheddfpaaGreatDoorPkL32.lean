/-
  The package lex's Tokens: all tokens of a text, or the first fault and its place. Conditions: those that each theorem names; the library's tables hold what the row lists.
-/
import Derived.Test.YtgbcchiheddfpaaGreatDoorPkL4
import Derived.Test.YtgbcchiheddfpaaGreatDoorPkL16
import Derived.Test.YtgbcchiheddfpaaGreatDoorPkL25
import Derived.Test.YtgbcchiheddfpaaGreatDoorRows
import Derived.Shelf.Bytes.SlSmallAll
import Derived.Lib.SlBytesConst
import Derived.Lib.ConvBytes
import Derived.Lib.AtoiErrMem
namespace Go.Proofs.YtgbcchiheddfpaaGreatDoor
open Go.Proofs Go.Shelf
def Tryz.laysnb116_ren : Go.Shelf.Ren := ⟨fun | 116 => 191 | 115 => 226 | n => n, fun | 37 => 22 | 4 => 4 | 3 => 3 | 9 => 9 | 5 => 5 | n => n, fun | n => n⟩
theorem Tryz.laysnb116 : Go.Proofs.Lays.nb116 Tryz.prog Tryz.laysnb116_ren := {
  mixed := by kernel_rfl
  f115 := Tryz.func226.trans (congrArg some (by kernel_rfl))
  f116 := Tryz.func191.trans (congrArg some (by kernel_rfl))
  t3 := Tryz.underlying3
  a3 := Tryz.isAgg3
  z3 := Tryz.sizeOf3
  v3 := Tryz.zeroValue3
  t4 := Tryz.underlying4
  a4 := Tryz.isAgg4
  z4 := Tryz.sizeOf4
  v4 := Tryz.zeroValue4
  t9 := Tryz.underlying9
  a9 := Tryz.isAgg9
  z9 := Tryz.sizeOf9
  v9 := Tryz.zeroValue9
  t37 := Tryz.underlying22
  a37 := Tryz.isAgg22
  z37 := Tryz.sizeOf22
  v37 := Tryz.zeroValue22
  t5 := Tryz.underlying5
  a5 := Tryz.isAgg5
  z5 := Tryz.sizeOf5
  v5 := Tryz.zeroValue5 }
theorem Tryz.bytes_HasPrefix_all (p1 p2 : Option Addr) (n c m d : Nat) (xs ys : List Int) (w : World) (hx : xs.length = n) (hy : ys.length = m) (hnc : n ≤ c) (h1 : Lib.BytesIn w p1 n xs) (h2 : Lib.BytesIn w p2 m ys) :
    Calls Tryz.prog 191 #[.slice p1 n c, .slice p2 m d] w fun e w' => e = .returned (.bool (Lib.hasPrefix (Lib.bytesOf xs) (Lib.bytesOf ys))) ∧ w' = w := Any.bytes_HasPrefix_all Tryz.laysnb116 p1 p2 n c m d xs ys w hx hy hnc h1 h2
end Go.Proofs.YtgbcchiheddfpaaGreatDoor
namespace Go.Proofs.YtgbcchiheddfpaaGreatDoor
open Go.ChangeShapes Go.WideShapes Go.ChangeAt Go.RowKit Go.Shelf

theorem slash2_prefix (zs : List Int) (hb : ∀ i, 0 ≤ zs.getD i 0 ∧ zs.getD i 0 ≤ 255) (j : Nat) : Lib.hasPrefix (Lib.bytesOf (zs.drop j)) (Lib.bytesOf [47, 47]) = slash2 zs j := by
  have key : ∀ x : Int, 0 ≤ x ∧ x ≤ 255 → ((47 : UInt8) == UInt8.ofNat x.toNat) = isC 47 x := by
    intro x hx
    unfold isC
    rw [Bool.eq_iff_iff, beq_iff_eq, decide_eq_true_iff, ← UInt8.toNat_inj]
    rw [UInt8.toNat_ofNat']
    simp
    omega
  unfold Lib.hasPrefix Lib.bytesOf
  by_cases h1 : j + 1 < zs.length
  · rw [drop_cons (show j < zs.length by omega), drop_cons h1]
    unfold slash2
    rw [stA_of (by omega), stA_of h1, ← key _ (hb j), ← key _ (hb (j + 1))]
    simp [List.isPrefixOf]
  · have e : slash2 zs j = false := by
      unfold slash2
      rw [stA_ge (i := j + 1) (by omega), Bool.and_false]
    rw [e]
    by_cases h2 : j < zs.length
    · rw [drop_cons h2, List.drop_eq_nil_of_le (by omega)]
      simp [List.isPrefixOf]
    · rw [List.drop_eq_nil_of_le (by omega)]
      rfl
theorem bytesIn_drop {w : World} {p : Option Addr} {zs : List Int} {n j : Nat} (hz : Bytes w p zs) (hn : zs.length = n) (_hj : j ≤ n) : Lib.BytesIn w (p.map (fun x => x.add j)) (n - j) (zs.drop j) := by
  intro h
  obtain ⟨b, off, rfl, _, hc⟩ := hz.2 (by rintro rfl; simp at hn; omega)
  refine ⟨b, off + j, ?_, fun i hi => ?_⟩
  · simp [add_plain]
  · rw [Nat.add_assoc, hc (j + i) (by omega)]
    simp [List.getD]
theorem two_cells (W : World) (G : Nat) (C : Array Value) (h : W.heap[G]? = some (.cells C 5 (2, 3))) (hC : C = #[.int .u8 47, .int .u8 47]) : Lib.BytesIn W (some ⟨G, 0, none⟩) 2 [47, 47] := by
  intro _
  refine ⟨G, 0, rfl, fun i hi => ?_⟩
  subst hC
  rw [cell_of_row W G (0 + i) _ 5 (2, 3) h]
  match i, hi with
  | 0, _ => rfl
  | 1, _ => rfl
set_option maxRecDepth 100000 in
theorem gap_any (p : Option Addr) (n cap i : Nat) (x : Int) (zs : List Int) (w : World) (hx : x = i) (hz : Bytes w p zs) (hn : zs.length = n) (hcap : n ≤ cap) (hl : n ≤ 281474976710656) (hi : i ≤ n) :
    Calls Tryz.prog 155 #[.slice p n cap, .int .i64 x] w fun e w' => e = .returned (.int .i64 (gap zs i : Nat)) ∧ Below w.heap.size w w' := by
  subst hx
  have HR := Lib.hid (fun j v k W hb hk hj => run_any p n cap j j zs v k W rfl (Bytes.below hz (Nat.le_refl _) hb) hn hk hl hj)
  have HN := Lib.hid hn
  have HZ := Lib.hid hz
  clear hz hn
  go_enter Tryz.func155, Tryz.ntmps155
  go_wp2_with fail
  refine (blank_any _).mono ?_
  rintro e W1 ⟨v1, rfl, hb1, hk1⟩
  have HK1 := Lib.hid hk1
  have HB1 := Lib.hid hb1
  clear hk1 hb1
  go_wp2_with fail
  refine (HR.out i v1 isBlank W1 HB1.out HK1.out hi).mono ?_
  rintro e W2 ⟨rfl, hb2⟩
  have HB2 := Lib.hid (HB1.out.trans (hb2.mono HB1.out.size))
  clear hb2 HB1 HK1
  have h0 := runTo_le zs isBlank i (by rw [HN.out]; exact hi)
  rw [HN.out] at h0
  have HG : Hid (gap zs i = gapF zs zs.length (runTo zs isBlank i)) := rfl
  generalize runTo zs isBlank i = j0 at h0 HG ⊢
  go_wp2
  go_loopw [1] (fun i' wr => Below w.heap.size w wr ∧ ∃ j : Nat, j ≤ n ∧ i' = .int .i64 j ∧ gap zs i = gapF zs zs.length j) (fun i' _ => n - (intOf i').toNat)
  case atStart => exact ⟨HB2.out, j0, h0, rfl, HG.out⟩
  case round =>
    clear HG HB2
    obtain ⟨hb, j, hj, rfl, hr⟩ := hrel
    have HB := Lib.hid hb
    have HJ := Lib.hid hr
    clear hb hr
    have kc := fun (w : World) (C : Array Value) (n c : Nat) => Lib.run_convert_bytes_const (P := Tryz.prog) w 22 5 C n c Tryz.underlying22 Tryz.underlying5
    have HX := Lib.hid (slash2_prefix zs HZ.out.1 j)
    have hnb := HN.out
    by_cases hc : cap = j
    · have ht : slash2 zs j = false := by
        unfold slash2
        rw [stA_ge (i := j) (by omega), Bool.false_and]
      have hjn : n ≤ j := by omega
      have HS := Lib.hid (gapF_stop zs.length ht)
      rw [ht] at HX
      clear ht hnb
      go_wp2_with fail
      refine (Tryz.bytes_HasPrefix_all p (some ⟨wr.heap.size, 0, none⟩) 0 0 2 2 (zs.drop j) [47, 47] _ (by have := HN.out; simp; omega) rfl (by omega) (Lib.BytesIn.nil _ p _) (two_cells _ _ _ (heap_alloc_new wr _) rfl)).mono ?_
      rintro e W3 ⟨rfl, rfl⟩
      rw [HX.out]
      go_wp2
      go_ret
      exact ⟨ret_int (by rw [HJ.out, HS.out]), HB.out.alloc HB.out.size _⟩
    · cases ht : slash2 zs j
      · have HS := Lib.hid (gapF_stop zs.length ht)
        rw [ht] at HX
        clear ht hnb
        go_wp2_with fail
        refine (Tryz.bytes_HasPrefix_all _ (some ⟨wr.heap.size, 0, none⟩) (n - j) (cap - j) 2 2 (zs.drop j) [47, 47] _ (by have := HN.out; simp; omega) rfl (by omega) (bytesIn_drop (HZ.out.below (Nat.le_refl _) (HB.out.alloc HB.out.size _)) HN.out hj) (two_cells _ _ _ (heap_alloc_new wr _) rfl)).mono ?_
        rintro e W3 ⟨rfl, rfl⟩
        rw [HX.out]
        go_wp2
        go_ret
        exact ⟨ret_int (by rw [HJ.out, HS.out]), HB.out.alloc HB.out.size _⟩
      · have hlt := slash2_lt ht
        have hgr := remark_grows ht
        have hr1 := runTo_le zs notLf j (by omega)
        have hr2 := runTo_le zs isBlank (runTo zs notLf j) hr1
        have HS := Lib.hid (gapF_step ht)
        rw [hnb] at hr1 hr2
        rw [ht] at HX
        clear ht hnb hlt
        go_wp2_with fail
        refine (Tryz.bytes_HasPrefix_all _ (some ⟨wr.heap.size, 0, none⟩) (n - j) (cap - j) 2 2 (zs.drop j) [47, 47] _ (by have := HN.out; simp; omega) rfl (by omega) (bytesIn_drop (HZ.out.below (Nat.le_refl _) (HB.out.alloc HB.out.size _)) HN.out hj) (two_cells _ _ _ (heap_alloc_new wr _) rfl)).mono ?_
        rintro e W3 ⟨rfl, hw⟩
        have HB3 : Hid (Below w.heap.size w W3) := by rw [hw]; exact HB.out.alloc HB.out.size _
        clear hw
        rw [HX.out]
        go_wp2_with fail
        refine (among_any ⟨#[10]⟩ _).mono ?_
        rintro e W4 ⟨v4, rfl, hb4, hk4⟩
        have HK4 := Lib.hid hk4
        have HB4 := Lib.hid (HB3.out.trans (hb4.mono HB3.out.size))
        clear hk4 hb4
        go_wp2_with fail
        refine (but_any v4 _ _ HK4.out).mono ?_
        rintro e W5 ⟨v5, rfl, hb5, hk5⟩
        have HK5 : Hid (KindV W5 v5 notLf) := hk5.congr fun c _ _ => by simp [amg, bts, notLf]
        have HB5 := Lib.hid (HB4.out.trans (hb5.mono HB4.out.size))
        clear hk5 hb5
        go_wp2_with fail
        refine (HR.out j v5 notLf W5 HB5.out HK5.out hj).mono ?_
        rintro e W6 ⟨rfl, hb6⟩
        have HB6 := Lib.hid (HB5.out.trans (hb6.mono HB5.out.size))
        clear hb6
        generalize runTo zs notLf j = j2 at hr1 hr2 hgr HS ⊢
        go_wp2_with fail
        refine (blank_any _).mono ?_
        rintro e W7 ⟨v7, rfl, hb7, hk7⟩
        have HK7 := Lib.hid hk7
        have HB7 := Lib.hid (HB6.out.trans (hb7.mono HB6.out.size))
        clear hk7 hb7
        go_wp2_with fail
        refine (HR.out j2 v7 isBlank W7 HB7.out HK7.out hr1).mono ?_
        rintro e W8 ⟨rfl, hb8⟩
        have HB8 := Lib.hid (HB7.out.trans (hb8.mono HB7.out.size))
        clear hb8
        generalize runTo zs isBlank j2 = j3 at hr2 hgr HS ⊢
        go_wp2
        go_roundw
        case rel => exact ⟨HB8.out, j3, hr2, rfl, by rw [HJ.out, HS.out]⟩
        case measure => simp [intOf]; omega
end Go.Proofs.YtgbcchiheddfpaaGreatDoor
namespace Go.Proofs.YtgbcchiheddfpaaGreatDoor
open Go.ChangeShapes Go.WideShapes Go.ChangeAt Go.RowKit Go.Shelf

theorem bytes_of_bytesWorld (w : World) (s : ByteArray) : Bytes (Lib.bytesWorld w 5 s) (some ⟨w.heap.size, 0, none⟩) (bts s) := by
  refine ⟨bts_bd s, fun _ => ⟨w.heap.size, 0, rfl, by rw [Lib.bytesWorld_size]; omega, fun i hi => ?_⟩⟩
  rw [bts_length] at hi
  rw [Nat.zero_add, Lib.bytesWorld_cell w _ s i hi]
  simp [bts, List.getD, hi]
theorem lexTokens_long (s sg : ByteArray) (w : World) (hs : s.size ≤ 9223372036854775807) (h : 8192 < s.size) :
    Calls Tryz.prog 118 #[.string s, .string sg] w fun e w' => e = .returned (.tuple #[.slice none 0 0, .agg #[.int .i64 16, .int .i64 8192]]) ∧ Below w.heap.size w w' := by
  go_enter Tryz.func118, Tryz.ntmps118
  go_wp2
  exact bodyPost_ret (v := .tuple #[.slice none 0 0, .agg #[.int .i64 16, .int .i64 8192]]) (by simp [results, Tryz.results118, go_sem]) rfl ⟨rfl, (Below.refl _ _).alloc (Nat.le_refl _) _⟩
def lexFrom (s sg : ByteArray) (j : Nat) (l : List Tok) : List Tok × Int × Nat := toksF okU (amg sg) (bts s) (2049 - l.length) j l
def LexPost (base : Nat) (w : World) (r : List Tok × Int × Nat) (e : Ending) (w' : World) : Prop :=
  ∃ v, e = .returned (.tuple #[v, .agg #[.int .i64 r.2.1, .int .i64 (r.2.2 : Nat)]]) ∧ OwnT w' base v r.1 ∧ Below base w w'
def FltBlk (g : Nat) (W : World) : Prop := W.heap[g]? = some (.cells #[.int .i64 0, .int .i64 0] 125 (0, 0))
theorem FltBlk.facts {g : Nat} {W : World} (h : FltBlk g W) : W.cell? ⟨g, 0, none⟩ = some (.int .i64 0) ∧ W.cell? ⟨g, 1, none⟩ = some (.int .i64 0) ∧ W.frozen? ⟨g, 0, none⟩ = false ∧ W.frozen? ⟨g, 1, none⟩ = false := by
  refine ⟨?_, ?_, ?_, ?_⟩
  · rw [cell_of_row W g 0 _ _ (0, 0) h]; rfl
  · rw [cell_of_row W g 1 _ _ (0, 0) h]; rfl
  · simp [World.frozen?, show W.heap[g]? = _ from h]
  · simp [World.frozen?, show W.heap[g]? = _ from h]
theorem FltBlk.below {g B : Nat} {W W' : World} (h : FltBlk g W) (hb : Below B W W') (hg : g < B) : FltBlk g W' := (hb.block g hg).trans h
theorem FltBlk.put {g : Nat} {W : World} (h : FltBlk g W) (hg : g < W.heap.size) (x y : Value) (o : Obj) :
    ((((W.setCell ⟨g, 0, none⟩ x).setCell ⟨g, 1, none⟩ y).alloc o).cell? ⟨g, 0, none⟩ = some x) ∧ ((((W.setCell ⟨g, 0, none⟩ x).setCell ⟨g, 1, none⟩ y).alloc o).cell? ⟨g, 1, none⟩ = some y) := by
  obtain ⟨g0, g1, _, _⟩ := h.facts
  constructor
  · rw [World.cell?_alloc_lt _ _ _ (by simpa [World.setCell] using hg)]
    simp [g0, go_sem]
  · rw [World.cell?_alloc_lt _ _ _ (by simpa [World.setCell] using hg)]
    simp [g1, go_sem]
theorem lexPost_end {base B : Nat} {w w' : World} {r : List Tok × Int × Nat} {v : Value} {l : List Tok} (hr : r = (l, 0, 0)) (ho : OwnT w' B v l) (hB : base ≤ B) (hb : Below base w w') : LexPost base w r (.returned (.tuple #[v, .agg #[.int .i64 0, .int .i64 0]])) w' := by
  subst hr
  exact ⟨_, rfl, ho.base_le hB, hb⟩
theorem lexPost_fault {base : Nat} {w w' : World} {r : List Tok × Int × Nat} {code : Int} {j : Nat} (hr : r = ([], code, j)) (hb : Below base w w') : LexPost base w r (.returned (.tuple #[.slice none 0 0, .agg #[.int .i64 code, .int .i64 (j : Nat)]])) w' := by
  subst hr
  exact ⟨_, rfl, ownT_nil _ _, hb⟩
theorem below_bytesWorld {B : Nat} {w W : World} (h : Below B w W) (hB : B ≤ W.heap.size) (e : TypeId) (s : ByteArray) : Below B w (Lib.bytesWorld W e s) := h.trans ((Lib.bytesWorld_below W e s).mono hB)
theorem lexFrom_many {s sg : ByteArray} {j : Nat} {l : List Tok} (h : l.length = 2048) : lexFrom s sg j l = ([], 16, gap (bts s) j) := by
  unfold lexFrom
  rw [h]
  simp only [toksF]
  rw [if_pos h]
theorem lexFrom_step {s sg : ByteArray} {j : Nat} {l : List Tok} (h : l.length < 2048) : lexFrom s sg j l =
    match tok okU (amg sg) (bts s) (gap (bts s) j) with
    | none => ([], 10, gap (bts s) j)
    | some (t, e) => if t.kind = 0 then (l ++ [t], 0, 0) else lexFrom s sg e (l ++ [t]) := by
  unfold lexFrom
  rw [show 2049 - l.length = (2048 - l.length) + 1 from by omega]
  simp only [toksF]
  rw [if_neg (by omega)]
  simp only [List.length_append, List.length_singleton]
  rw [show 2049 - (l.length + 1) = 2048 - l.length from by omega]
  rfl
set_option maxHeartbeats 800000 in
set_option maxRecDepth 100000 in
theorem lexTokens_short (s sg : ByteArray) (w : World) (hT : Tabs w) (h : s.size ≤ 8192) :
    Calls Tryz.prog 118 #[.string s, .string sg] w (LexPost w.heap.size w (lexFrom s sg 0 [])) := by
  have kc := fun W => Lib.run_convert_string_bytes (P := Tryz.prog) W 9 22 5 s Tryz.underlying9 Tryz.underlying22 Tryz.underlying5
  have hd : decide ((8192 : Int) < (s.size : Int)) = false := by simp; omega
  go_enter Tryz.func118, Tryz.ntmps118
  go_wp2
  have hcap := grownCap_ge (w.alloc (.cells #[.int .i64 0, .int .i64 0] 125)) s.size 0 5
  have hb0 : Below w.heap.size w (Lib.bytesWorld (w.alloc (.cells #[.int .i64 0, .int .i64 0] 125)) 5 s) := below_bytesWorld ((Below.refl _ _).alloc (Nat.le_refl _) _) (by simp) _ _
  have hz0 := bytes_of_bytesWorld (w.alloc (.cells #[.int .i64 0, .int .i64 0] 125)) s
  have hf0 : FltBlk w.heap.size (Lib.bytesWorld (w.alloc (.cells #[.int .i64 0, .int .i64 0] 125)) 5 s) := by
    unfold FltBlk
    rw [Lib.bytesWorld_at_old _ _ _ _ (by simp)]
    exact heap_alloc_new w _
  have hsz : w.heap.size < (Lib.bytesWorld (w.alloc (.cells #[.int .i64 0, .int .i64 0] 125)) 5 s).heap.size := by rw [Lib.bytesWorld_size]; simp; omega
  simp only [World.size_alloc] at hz0
  generalize grownCap (w.alloc (.cells #[.int .i64 0, .int .i64 0] 125)) s.size 0 5 = cap at hcap ⊢
  generalize Lib.bytesWorld (w.alloc (.cells #[.int .i64 0, .int .i64 0] 125)) 5 s = W0 at hb0 hz0 hf0 hsz ⊢
  have HB0 := Lib.hid hb0
  have HF0 := Lib.hid hf0
  have HGAP := Lib.hid (fun j W (hb : Below W0.heap.size W0 W) hj => gap_any (some ⟨w.heap.size + 1, 0, none⟩) s.size cap j j (bts s) W rfl (hz0.below (Nat.le_refl _) hb) (bts_length s) hcap (by omega) hj)
  have HTOK := Lib.hid (fun j v W (hb : Below W0.heap.size W0 W) hj hk => token_any (some ⟨w.heap.size + 1, 0, none⟩) s.size cap j j v (amg sg) (bts s) W rfl (Tabs.below hT (Nat.le_refl _) (hb0.trans (hb.mono hb0.size))) (hz0.below (Nat.le_refl _) hb) (bts_length s) (by omega) hj hcap hk)
  clear hb0 hf0 hz0 kc hT hcap hd
  go_loopw [7, 8] (fun lv at' wr => Below W0.heap.size W0 wr ∧ ∃ (j : Nat) (l : List Tok), j ≤ s.size ∧ at' = .int .i64 j ∧ OwnT wr W0.heap.size lv l ∧ l.length ≤ 2048 ∧ lexFrom s sg 0 [] = lexFrom s sg j l) (fun lv _ _ => 2048 - lenOf lv)
  case atStart => exact ⟨Below.refl _ _, 0, [], Nat.zero_le _, rfl, ownT_nil _ _, by decide, rfl⟩
  case round =>
    obtain ⟨hb, j, l, hj, rfl, ho, hll, hr⟩ := hrel
    obtain ⟨a, c, rfl⟩ := ho.form
    have HB := Lib.hid hb
    have HJ := Lib.hid hr
    have HO := Lib.hid ho
    have hg1 := gap_le (bts s) j (by rw [bts_length]; exact hj)
    rw [bts_length] at hg1
    clear hb hr ho
    by_cases h2 : l.length = 2048
    · have HM := Lib.hid (lexFrom_many (s := s) (sg := sg) (j := j) h2)
      have HL := Lib.hid h2
      go_wp2_with fail
      refine (HGAP.out j _ HB.out hj).mono ?_
      rintro e W1 ⟨rfl, hb1⟩
      have HB1 := Lib.hid (HB.out.trans (hb1.mono HB.out.size))
      clear hb1
      obtain ⟨g0, g1, f0, f1⟩ := (HF0.out.below HB1.out hsz).facts
      have t2 : ((l.length : Int) == 2048) = true := by simp; omega
      clear h2
      go_wp2
      exact bodyPost_ret (v := .tuple #[.slice none 0 0, .agg #[.int .i64 16, .int .i64 (gap (bts s) j : Nat)]]) (by simp [results, Tryz.results118, go_sem, g0, g1]) rfl
        (lexPost_fault (HJ.out.trans HM.out) (((HB0.out.trans (HB1.out.mono HB0.out.size)).setCell (Nat.le_refl _) _).setCell (Nat.le_refl _) _))
    · have HM := Lib.hid (lexFrom_step (s := s) (sg := sg) (j := j) (l := l) (by omega))
      have t2 : ((l.length : Int) == 2048) = false := by simp; omega
      go_wp2_with fail
      refine (HGAP.out j _ HB.out hj).mono ?_
      rintro e W1 ⟨rfl, hb1⟩
      have HB1 := Lib.hid (HB.out.trans (hb1.mono HB.out.size))
      have HO1 := Lib.hid (HO.out.below hb1 (Nat.le_refl _))
      clear hb1
      generalize gap (bts s) j = k at hg1 HM ⊢
      go_wp2_with fail
      refine (among_any sg _).mono ?_
      rintro e W2 ⟨v2, rfl, hb2, hk2⟩
      have HK2 := Lib.hid hk2
      have HB2 := Lib.hid (HB1.out.trans (hb2.mono HB1.out.size))
      have HO2 := Lib.hid (HO1.out.below hb2 (Nat.le_refl _))
      clear hb2 hk2
      go_wp2_with fail
      refine (HTOK.out k v2 _ HB2.out hg1 HK2.out).mono ?_
      rintro e W3 ⟨rfl, hb3⟩
      have HB3 := Lib.hid (HB2.out.trans (hb3.mono HB2.out.size))
      have HO3 := Lib.hid (HO2.out.below hb3 (Nat.le_refl _))
      clear hb3
      generalize hq : tok okU (amg sg) (bts s) k = q at HM ⊢
      obtain _ | ⟨t, e2⟩ := q
      · clear hq
        obtain ⟨g0, g1, f0, f1⟩ := (HF0.out.below HB3.out hsz).facts
        have hs3 : w.heap.size < W3.heap.size := Nat.lt_of_lt_of_le hsz HB3.out.size
        simp only [tokVal]
        go_wp2
        obtain ⟨r0, r1⟩ := (HF0.out.below HB3.out hsz).put hs3 (.int .i64 10) (.int .i64 (k : Nat)) (.cells #[.int .i64 0, .string ByteArray.empty, .int .i64 0] 282)
        exact bodyPost_ret (v := .tuple #[.slice none 0 0, .agg #[.int .i64 10, .int .i64 (k : Nat)]]) (by simp [results, Tryz.results118, go_sem, r0, r1]) rfl
          (lexPost_fault (HJ.out.trans HM.out) (((((HB0.out.trans (HB3.out.mono HB0.out.size)).setCell (Nat.le_refl _) _).setCell (Nat.le_refl _) _)).alloc (by simpa [World.setCell] using Nat.le_of_lt hs3) _))
      · have HQ := Lib.hid hq
        have he2 := tok_le (by rw [bts_length]; exact hg1) hq
        rw [bts_length] at he2
        obtain ⟨i0, hi0, hz0, hz1, hz2⟩ := info_parts tok_info
        have I1 := Lib.hid hi0
        have I2 := Lib.hid hz0
        have I3 := Lib.hid hz1
        have I4 := Lib.hid hz2
        have hs3 : w.heap.size < W3.heap.size := Nat.lt_of_lt_of_le hsz HB3.out.size
        clear hq hi0 hz0 hz1 hz2
        simp only [tokVal]
        by_cases hkd : t.kind = 0
        · have tk : (t.kind == 0) = true := by simp [hkd]
          have HE := Lib.hid (HM.out.trans (if_pos hkd))
          clear hkd
          go_wp2_with (at_builtin; refine wpList_append_own _ rfl (.tmp 39) (.tmp 41) 186 rfl W0.heap.size 282 i0 _ 3 32 Tryz.underlying186 I1.out I2.out I3.out I4.out rfl (by decide) _ l.length (toksCells l) rfl (HO3.out.below (((Below.refl W3.heap.size W3).alloc (Nat.le_refl _) _).alloc (by simp) _) (Nat.le_refl _)) ⟨W3.heap.size + 1, 0, none⟩ 1 1 (tokCells t) rfl rfl (tokCells_new _ t _ (by simp)) (tokCells_one t) (by unfold maxLen; omega) (by omega) (by have := HB3.out.size; simp; omega) ?_; intro v4 W4 hown4 hg4 hx; clear hx; obtain ⟨kk, hb4⟩ := grown_new HO3.out HB3.out hg4; obtain ⟨g0, g1, f0, f1⟩ := (HF0.out.below hb4 hsz).facts; have HB4 := Lib.hid hb4; have HO4 := Lib.hid (OwnT.snoc hown4); clear hown4 hg4 hb4)
          exact bodyPost_ret (v := .tuple #[v4, .agg #[.int .i64 0, .int .i64 0]]) (by simp [results, Tryz.results118, go_sem, g0, g1]) rfl
            (lexPost_end (HJ.out.trans HE.out) ((HO4.out.setFar hsz _).setFar hsz _) HB0.out.size (((HB0.out.trans (HB4.out.mono HB0.out.size)).setCell (Nat.le_refl _) _).setCell (Nat.le_refl _) _))
        · have tk : (t.kind == 0) = false := by simp [hkd]
          have HE := Lib.hid (HM.out.trans (if_neg hkd))
          clear hkd
          go_wp2_with (at_builtin; refine wpList_append_own _ rfl (.tmp 39) (.tmp 41) 186 rfl W0.heap.size 282 i0 _ 3 32 Tryz.underlying186 I1.out I2.out I3.out I4.out rfl (by decide) _ l.length (toksCells l) rfl (HO3.out.below (((Below.refl W3.heap.size W3).alloc (Nat.le_refl _) _).alloc (by simp) _) (Nat.le_refl _)) ⟨W3.heap.size + 1, 0, none⟩ 1 1 (tokCells t) rfl rfl (tokCells_new _ t _ (by simp)) (tokCells_one t) (by unfold maxLen; omega) (by omega) (by have := HB3.out.size; simp; omega) ?_; intro v4 W4 hown4 hg4 hx; clear hx; obtain ⟨kk, hb4⟩ := grown_new HO3.out HB3.out hg4; obtain ⟨g0, g1, f0, f1⟩ := (HF0.out.below hb4 hsz).facts; have HB4 := Lib.hid hb4; have HO4 := Lib.hid (OwnT.snoc hown4); clear hown4 hg4 hb4)
          obtain ⟨a4, c4, rfl⟩ := HO4.out.form
          go_roundw
          case rel => exact ⟨HB4.out, e2, l ++ [t], he2, rfl, HO4.out, by simp; omega, HJ.out.trans HE.out⟩
          case measure => simp [lenOf]; omega
theorem lexTokens_any (s sg : ByteArray) (w : World) (hT : Tabs w) (hs : s.size ≤ 9223372036854775807) :
    Calls Tryz.prog 118 #[.string s, .string sg] w (LexPost w.heap.size w (toks okU (amg sg) (bts s))) := by
  unfold toks
  rw [bts_length]
  by_cases h : 8192 < s.size
  · rw [if_pos h]
    exact (lexTokens_long s sg w hs h).mono fun e w' ⟨he, hb⟩ => by rw [he]; exact lexPost_fault rfl hb
  · rw [if_neg h]
    exact lexTokens_short s sg w hT (by omega)
end Go.Proofs.YtgbcchiheddfpaaGreatDoor
