/-
  Plain facts on tokens: how the tokens of a text hang together; a text made of gaps and whole tokens has just these tokens. No run of the program stands in this text. Conditions: those that each theorem names.
-/
import Derived.Test.YtleclhnlojalbaaGreatDoorPkW1
import Derived.Test.YtleclhnlojalbaaGreatDoorPkW2
import Derived.Test.YtleclhnlojalbaaGreatDoorPkW3
import Derived.Test.YtleclhnlojalbaaGreatDoorPkW12
import Derived.Test.YtleclhnlojalbaaGreatDoorPkW33
import Derived.Lib.SlBytesConst
import Derived.Lib.ConvBytes
import Derived.Lib.AtoiErrMem
namespace Go.Proofs.YtleclhnlojalbaaGreatDoor
open Go.ChangeShapes Go.WideShapes Go.ChangeAt Go.RowKit Go.Shelf

theorem slash2_prefix (zs : List Int) (hb : ∀ i, 0 ≤ zs.getD i 0 ∧ zs.getD i 0 ≤ 255) (j : Nat) : Lib.hasPrefix (Lib.bytesOf (zs.drop j)) (Lib.bytesOf [47, 47]) = slash2 zs j := by
  have key : ∀ x : Int, 0 ≤ x ∧ x ≤ 255 → ((47 : UInt8) == UInt8.ofNat x.toNat) = isC 47 x := by
    intro x hx
    unfold isC
    rw [Bool.eq_iff_iff, beq_iff_eq, decide_eq_true_iff, ← UInt8.toNat_inj]
    rw [UInt8.toNat_ofNat']
    simp
    omega
  unfold Lib.hasPrefix Lib.bytesOf
  by_cases h1 : j + 1 < zs.length
  · rw [drop_cons (show j < zs.length by omega), drop_cons h1]
    unfold slash2
    rw [stA_of (by omega), stA_of h1, ← key _ (hb j), ← key _ (hb (j + 1))]
    simp [List.isPrefixOf]
  · have e : slash2 zs j = false := by
      unfold slash2
      rw [stA_ge (i := j + 1) (by omega), Bool.and_false]
    rw [e]
    by_cases h2 : j < zs.length
    · rw [drop_cons h2, List.drop_eq_nil_of_le (by omega)]
      simp [List.isPrefixOf]
    · rw [List.drop_eq_nil_of_le (by omega)]
      rfl
theorem bytesIn_drop {w : World} {p : Option Addr} {zs : List Int} {n j : Nat} (hz : Bytes w p zs) (hn : zs.length = n) (_hj : j ≤ n) : Lib.BytesIn w (p.map (fun x => x.add j)) (n - j) (zs.drop j) := by
  intro h
  obtain ⟨b, off, rfl, _, hc⟩ := hz.2 (by rintro rfl; simp at hn; omega)
  refine ⟨b, off + j, ?_, fun i hi => ?_⟩
  · simp [add_plain]
  · rw [Nat.add_assoc, hc (j + i) (by omega)]
    simp [List.getD]
theorem two_cells (W : World) (G : Nat) (C : Array Value) (h : W.heap[G]? = some (.cells C 5 (2, 3))) (hC : C = #[.int .u8 47, .int .u8 47]) : Lib.BytesIn W (some ⟨G, 0, none⟩) 2 [47, 47] := by
  intro _
  refine ⟨G, 0, rfl, fun i hi => ?_⟩
  subst hC
  rw [cell_of_row W G (0 + i) _ 5 (2, 3) h]
  match i, hi with
  | 0, _ => rfl
  | 1, _ => rfl
set_option maxRecDepth 100000 in
theorem gap_any (p : Option Addr) (n cap i : Nat) (x : Int) (zs : List Int) (w : World) (hx : x = i) (hz : Bytes w p zs) (hn : zs.length = n) (hcap : n ≤ cap) (hl : n ≤ 281474976710656) (hi : i ≤ n) :
    Calls Tryz.prog 91 #[.slice p n cap, .int .i64 x] w fun e w' => e = .returned (.int .i64 (gap zs i : Nat)) ∧ Below w.heap.size w w' := by
  subst hx
  have HR := Lib.hid (fun j v k W hb hk hj => run_any p n cap j j zs v k W rfl (Bytes.below hz (Nat.le_refl _) hb) hn hk hl hj)
  have HN := Lib.hid hn
  have HZ := Lib.hid hz
  clear hz hn
  go_enter Tryz.func91, Tryz.ntmps91
  go_wp2_with fail
  refine (blank_any _).mono ?_
  rintro e W1 ⟨v1, rfl, hb1, hk1⟩
  have HK1 := Lib.hid hk1
  have HB1 := Lib.hid hb1
  clear hk1 hb1
  go_wp2_with fail
  refine (HR.out i v1 isBlank W1 HB1.out HK1.out hi).mono ?_
  rintro e W2 ⟨rfl, hb2⟩
  have HB2 := Lib.hid (HB1.out.trans (hb2.mono HB1.out.size))
  clear hb2 HB1 HK1
  have h0 := runTo_le zs isBlank i (by rw [HN.out]; exact hi)
  rw [HN.out] at h0
  have HG : Hid (gap zs i = gapF zs zs.length (runTo zs isBlank i)) := rfl
  generalize runTo zs isBlank i = j0 at h0 HG ⊢
  go_wp2
  go_loopw [1] (fun i' wr => Below w.heap.size w wr ∧ ∃ j : Nat, j ≤ n ∧ i' = .int .i64 j ∧ gap zs i = gapF zs zs.length j) (fun i' _ => n - (intOf i').toNat)
  case atStart => exact ⟨HB2.out, j0, h0, rfl, HG.out⟩
  case round =>
    clear HG HB2
    obtain ⟨hb, j, hj, rfl, hr⟩ := hrel
    have HB := Lib.hid hb
    have HJ := Lib.hid hr
    clear hb hr
    have kc := fun (w : World) (C : Array Value) (n c : Nat) => Lib.run_convert_bytes_const (P := Tryz.prog) w 24 5 C n c Tryz.underlying24 Tryz.underlying5
    have HX := Lib.hid (slash2_prefix zs HZ.out.1 j)
    have hnb := HN.out
    by_cases hc : cap = j
    · have ht : slash2 zs j = false := by
        unfold slash2
        rw [stA_ge (i := j) (by omega), Bool.false_and]
      have hjn : n ≤ j := by omega
      have HS := Lib.hid (gapF_stop zs.length ht)
      rw [ht] at HX
      clear ht hnb
      go_wp2_with fail
      refine (Tryz.bytes_HasPrefix_all p (some ⟨wr.heap.size, 0, none⟩) 0 0 2 2 (zs.drop j) [47, 47] _ (by have := HN.out; simp; omega) rfl (by omega) (Lib.BytesIn.nil _ p _) (two_cells _ _ _ (heap_alloc_new wr _) rfl)).mono ?_
      rintro e W3 ⟨rfl, rfl⟩
      rw [HX.out]
      go_wp2
      go_ret
      exact ⟨ret_int (by rw [HJ.out, HS.out]), HB.out.alloc HB.out.size _⟩
    · cases ht : slash2 zs j
      · have HS := Lib.hid (gapF_stop zs.length ht)
        rw [ht] at HX
        clear ht hnb
        go_wp2_with fail
        refine (Tryz.bytes_HasPrefix_all _ (some ⟨wr.heap.size, 0, none⟩) (n - j) (cap - j) 2 2 (zs.drop j) [47, 47] _ (by have := HN.out; simp; omega) rfl (by omega) (bytesIn_drop (HZ.out.below (Nat.le_refl _) (HB.out.alloc HB.out.size _)) HN.out hj) (two_cells _ _ _ (heap_alloc_new wr _) rfl)).mono ?_
        rintro e W3 ⟨rfl, rfl⟩
        rw [HX.out]
        go_wp2
        go_ret
        exact ⟨ret_int (by rw [HJ.out, HS.out]), HB.out.alloc HB.out.size _⟩
      · have hlt := slash2_lt ht
        have hgr := remark_grows ht
        have hr1 := runTo_le zs notLf j (by omega)
        have hr2 := runTo_le zs isBlank (runTo zs notLf j) hr1
        have HS := Lib.hid (gapF_step ht)
        rw [hnb] at hr1 hr2
        rw [ht] at HX
        clear ht hnb hlt
        go_wp2_with fail
        refine (Tryz.bytes_HasPrefix_all _ (some ⟨wr.heap.size, 0, none⟩) (n - j) (cap - j) 2 2 (zs.drop j) [47, 47] _ (by have := HN.out; simp; omega) rfl (by omega) (bytesIn_drop (HZ.out.below (Nat.le_refl _) (HB.out.alloc HB.out.size _)) HN.out hj) (two_cells _ _ _ (heap_alloc_new wr _) rfl)).mono ?_
        rintro e W3 ⟨rfl, hw⟩
        have HB3 : Hid (Below w.heap.size w W3) := by rw [hw]; exact HB.out.alloc HB.out.size _
        clear hw
        rw [HX.out]
        go_wp2_with fail
        refine (among_any ⟨#[10]⟩ _).mono ?_
        rintro e W4 ⟨v4, rfl, hb4, hk4⟩
        have HK4 := Lib.hid hk4
        have HB4 := Lib.hid (HB3.out.trans (hb4.mono HB3.out.size))
        clear hk4 hb4
        go_wp2_with fail
        refine (but_any v4 _ _ HK4.out).mono ?_
        rintro e W5 ⟨v5, rfl, hb5, hk5⟩
        have HK5 : Hid (KindV W5 v5 notLf) := hk5.congr fun c _ _ => by simp [amg, bts, notLf]
        have HB5 := Lib.hid (HB4.out.trans (hb5.mono HB4.out.size))
        clear hk5 hb5
        go_wp2_with fail
        refine (HR.out j v5 notLf W5 HB5.out HK5.out hj).mono ?_
        rintro e W6 ⟨rfl, hb6⟩
        have HB6 := Lib.hid (HB5.out.trans (hb6.mono HB5.out.size))
        clear hb6
        generalize runTo zs notLf j = j2 at hr1 hr2 hgr HS ⊢
        go_wp2_with fail
        refine (blank_any _).mono ?_
        rintro e W7 ⟨v7, rfl, hb7, hk7⟩
        have HK7 := Lib.hid hk7
        have HB7 := Lib.hid (HB6.out.trans (hb7.mono HB6.out.size))
        clear hk7 hb7
        go_wp2_with fail
        refine (HR.out j2 v7 isBlank W7 HB7.out HK7.out hr1).mono ?_
        rintro e W8 ⟨rfl, hb8⟩
        have HB8 := Lib.hid (HB7.out.trans (hb8.mono HB7.out.size))
        clear hb8
        generalize runTo zs isBlank j2 = j3 at hr2 hgr HS ⊢
        go_wp2
        go_roundw
        case rel => exact ⟨HB8.out, j3, hr2, rfl, by rw [HJ.out, HS.out]⟩
        case measure => simp [intOf]; omega
end Go.Proofs.YtleclhnlojalbaaGreatDoor
namespace Go.Proofs.YtleclhnlojalbaaGreatDoor
open Go.ChangeShapes Go.WideShapes Go.ChangeAt Go.RowKit Go.Shelf

theorem bytes_of_bytesWorld (w : World) (s : ByteArray) : Bytes (Lib.bytesWorld w 5 s) (some ⟨w.heap.size, 0, none⟩) (bts s) := by
  refine ⟨bts_bd s, fun _ => ⟨w.heap.size, 0, rfl, by rw [Lib.bytesWorld_size]; omega, fun i hi => ?_⟩⟩
  rw [bts_length] at hi
  rw [Nat.zero_add, Lib.bytesWorld_cell w _ s i hi]
  simp [bts, List.getD, hi]
theorem lexTokens_long (s sg : ByteArray) (w : World) (hs : s.size ≤ 9223372036854775807) (h : 8192 < s.size) :
    Calls Tryz.prog 68 #[.string s, .string sg] w fun e w' => e = .returned (.tuple #[.slice none 0 0, .agg #[.int .i64 16, .int .i64 8192]]) ∧ Below w.heap.size w w' := by
  go_enter Tryz.func68, Tryz.ntmps68
  go_wp2
  exact bodyPost_ret (v := .tuple #[.slice none 0 0, .agg #[.int .i64 16, .int .i64 8192]]) (by simp [results, Tryz.results68, go_sem]) rfl ⟨rfl, (Below.refl _ _).alloc (Nat.le_refl _) _⟩
def lexFrom (s sg : ByteArray) (j : Nat) (l : List Tok) : List Tok × Int × Nat := toksF okU (amg sg) (bts s) (2049 - l.length) j l
def LexPost (base : Nat) (w : World) (r : List Tok × Int × Nat) (e : Ending) (w' : World) : Prop :=
  ∃ v, e = .returned (.tuple #[v, .agg #[.int .i64 r.2.1, .int .i64 (r.2.2 : Nat)]]) ∧ OwnT w' base v r.1 ∧ Below base w w'
def FltBlk (g : Nat) (W : World) : Prop := W.heap[g]? = some (.cells #[.int .i64 0, .int .i64 0] 43 (0, 0))
theorem FltBlk.facts {g : Nat} {W : World} (h : FltBlk g W) : W.cell? ⟨g, 0, none⟩ = some (.int .i64 0) ∧ W.cell? ⟨g, 1, none⟩ = some (.int .i64 0) ∧ W.frozen? ⟨g, 0, none⟩ = false ∧ W.frozen? ⟨g, 1, none⟩ = false := by
  refine ⟨?_, ?_, ?_, ?_⟩
  · rw [cell_of_row W g 0 _ _ (0, 0) h]; rfl
  · rw [cell_of_row W g 1 _ _ (0, 0) h]; rfl
  · simp [World.frozen?, show W.heap[g]? = _ from h]
  · simp [World.frozen?, show W.heap[g]? = _ from h]
theorem FltBlk.below {g B : Nat} {W W' : World} (h : FltBlk g W) (hb : Below B W W') (hg : g < B) : FltBlk g W' := (hb.block g hg).trans h
theorem FltBlk.put {g : Nat} {W : World} (h : FltBlk g W) (hg : g < W.heap.size) (x y : Value) (o : Obj) :
    ((((W.setCell ⟨g, 0, none⟩ x).setCell ⟨g, 1, none⟩ y).alloc o).cell? ⟨g, 0, none⟩ = some x) ∧ ((((W.setCell ⟨g, 0, none⟩ x).setCell ⟨g, 1, none⟩ y).alloc o).cell? ⟨g, 1, none⟩ = some y) := by
  obtain ⟨g0, g1, _, _⟩ := h.facts
  constructor
  · rw [World.cell?_alloc_lt _ _ _ (by simpa [World.setCell] using hg)]
    simp [g0, go_sem]
  · rw [World.cell?_alloc_lt _ _ _ (by simpa [World.setCell] using hg)]
    simp [g1, go_sem]
theorem lexPost_end {base B : Nat} {w w' : World} {r : List Tok × Int × Nat} {v : Value} {l : List Tok} (hr : r = (l, 0, 0)) (ho : OwnT w' B v l) (hB : base ≤ B) (hb : Below base w w') : LexPost base w r (.returned (.tuple #[v, .agg #[.int .i64 0, .int .i64 0]])) w' := by
  subst hr
  exact ⟨_, rfl, ho.base_le hB, hb⟩
theorem lexPost_fault {base : Nat} {w w' : World} {r : List Tok × Int × Nat} {code : Int} {j : Nat} (hr : r = ([], code, j)) (hb : Below base w w') : LexPost base w r (.returned (.tuple #[.slice none 0 0, .agg #[.int .i64 code, .int .i64 (j : Nat)]])) w' := by
  subst hr
  exact ⟨_, rfl, ownT_nil _ _, hb⟩
theorem below_bytesWorld {B : Nat} {w W : World} (h : Below B w W) (hB : B ≤ W.heap.size) (e : TypeId) (s : ByteArray) : Below B w (Lib.bytesWorld W e s) := h.trans ((Lib.bytesWorld_below W e s).mono hB)
theorem lexFrom_many {s sg : ByteArray} {j : Nat} {l : List Tok} (h : l.length = 2048) : lexFrom s sg j l = ([], 16, gap (bts s) j) := by
  unfold lexFrom
  rw [h]
  simp only [toksF]
  rw [if_pos h]
theorem lexFrom_step {s sg : ByteArray} {j : Nat} {l : List Tok} (h : l.length < 2048) : lexFrom s sg j l =
    match tok okU (amg sg) (bts s) (gap (bts s) j) with
    | none => ([], 10, gap (bts s) j)
    | some (t, e) => if t.kind = 0 then (l ++ [t], 0, 0) else lexFrom s sg e (l ++ [t]) := by
  unfold lexFrom
  rw [show 2049 - l.length = (2048 - l.length) + 1 from by omega]
  simp only [toksF]
  rw [if_neg (by omega)]
  simp only [List.length_append, List.length_singleton]
  rw [show 2049 - (l.length + 1) = 2048 - l.length from by omega]
  rfl
set_option maxHeartbeats 800000 in
set_option maxRecDepth 100000 in
theorem lexTokens_short (s sg : ByteArray) (w : World) (hT : Tabs w) (h : s.size ≤ 8192) :
    Calls Tryz.prog 68 #[.string s, .string sg] w (LexPost w.heap.size w (lexFrom s sg 0 [])) := by
  have kc := fun W => Lib.run_convert_string_bytes (P := Tryz.prog) W 9 24 5 s Tryz.underlying9 Tryz.underlying24 Tryz.underlying5
  have hd : decide ((8192 : Int) < (s.size : Int)) = false := by simp; omega
  go_enter Tryz.func68, Tryz.ntmps68
  go_wp2
  have hcap := grownCap_ge (w.alloc (.cells #[.int .i64 0, .int .i64 0] 43)) s.size 0 5
  have hb0 : Below w.heap.size w (Lib.bytesWorld (w.alloc (.cells #[.int .i64 0, .int .i64 0] 43)) 5 s) := below_bytesWorld ((Below.refl _ _).alloc (Nat.le_refl _) _) (by simp) _ _
  have hz0 := bytes_of_bytesWorld (w.alloc (.cells #[.int .i64 0, .int .i64 0] 43)) s
  have hf0 : FltBlk w.heap.size (Lib.bytesWorld (w.alloc (.cells #[.int .i64 0, .int .i64 0] 43)) 5 s) := by
    unfold FltBlk
    rw [Lib.bytesWorld_at_old _ _ _ _ (by simp)]
    exact heap_alloc_new w _
  have hsz : w.heap.size < (Lib.bytesWorld (w.alloc (.cells #[.int .i64 0, .int .i64 0] 43)) 5 s).heap.size := by rw [Lib.bytesWorld_size]; simp; omega
  simp only [World.size_alloc] at hz0
  generalize grownCap (w.alloc (.cells #[.int .i64 0, .int .i64 0] 43)) s.size 0 5 = cap at hcap ⊢
  generalize Lib.bytesWorld (w.alloc (.cells #[.int .i64 0, .int .i64 0] 43)) 5 s = W0 at hb0 hz0 hf0 hsz ⊢
  have HB0 := Lib.hid hb0
  have HF0 := Lib.hid hf0
  have HGAP := Lib.hid (fun j W (hb : Below W0.heap.size W0 W) hj => gap_any (some ⟨w.heap.size + 1, 0, none⟩) s.size cap j j (bts s) W rfl (hz0.below (Nat.le_refl _) hb) (bts_length s) hcap (by omega) hj)
  have HTOK := Lib.hid (fun j v W (hb : Below W0.heap.size W0 W) hj hk => token_any (some ⟨w.heap.size + 1, 0, none⟩) s.size cap j j v (amg sg) (bts s) W rfl (Tabs.below hT (Nat.le_refl _) (hb0.trans (hb.mono hb0.size))) (hz0.below (Nat.le_refl _) hb) (bts_length s) (by omega) hj hcap hk)
  clear hb0 hf0 hz0 kc hT hcap hd
  go_loopw [7, 8] (fun lv at' wr => Below W0.heap.size W0 wr ∧ ∃ (j : Nat) (l : List Tok), j ≤ s.size ∧ at' = .int .i64 j ∧ OwnT wr W0.heap.size lv l ∧ l.length ≤ 2048 ∧ lexFrom s sg 0 [] = lexFrom s sg j l) (fun lv _ _ => 2048 - lenOf lv)
  case atStart => exact ⟨Below.refl _ _, 0, [], Nat.zero_le _, rfl, ownT_nil _ _, by decide, rfl⟩
  case round =>
    obtain ⟨hb, j, l, hj, rfl, ho, hll, hr⟩ := hrel
    obtain ⟨a, c, rfl⟩ := ho.form
    have HB := Lib.hid hb
    have HJ := Lib.hid hr
    have HO := Lib.hid ho
    have hg1 := gap_le (bts s) j (by rw [bts_length]; exact hj)
    rw [bts_length] at hg1
    clear hb hr ho
    by_cases h2 : l.length = 2048
    · have HM := Lib.hid (lexFrom_many (s := s) (sg := sg) (j := j) h2)
      have HL := Lib.hid h2
      go_wp2_with fail
      refine (HGAP.out j _ HB.out hj).mono ?_
      rintro e W1 ⟨rfl, hb1⟩
      have HB1 := Lib.hid (HB.out.trans (hb1.mono HB.out.size))
      clear hb1
      obtain ⟨g0, g1, f0, f1⟩ := (HF0.out.below HB1.out hsz).facts
      have t2 : ((l.length : Int) == 2048) = true := by simp; omega
      clear h2
      go_wp2
      exact bodyPost_ret (v := .tuple #[.slice none 0 0, .agg #[.int .i64 16, .int .i64 (gap (bts s) j : Nat)]]) (by simp [results, Tryz.results68, go_sem, g0, g1]) rfl
        (lexPost_fault (HJ.out.trans HM.out) (((HB0.out.trans (HB1.out.mono HB0.out.size)).setCell (Nat.le_refl _) _).setCell (Nat.le_refl _) _))
    · have HM := Lib.hid (lexFrom_step (s := s) (sg := sg) (j := j) (l := l) (by omega))
      have t2 : ((l.length : Int) == 2048) = false := by simp; omega
      go_wp2_with fail
      refine (HGAP.out j _ HB.out hj).mono ?_
      rintro e W1 ⟨rfl, hb1⟩
      have HB1 := Lib.hid (HB.out.trans (hb1.mono HB.out.size))
      have HO1 := Lib.hid (HO.out.below hb1 (Nat.le_refl _))
      clear hb1
      generalize gap (bts s) j = k at hg1 HM ⊢
      go_wp2_with fail
      refine (among_any sg _).mono ?_
      rintro e W2 ⟨v2, rfl, hb2, hk2⟩
      have HK2 := Lib.hid hk2
      have HB2 := Lib.hid (HB1.out.trans (hb2.mono HB1.out.size))
      have HO2 := Lib.hid (HO1.out.below hb2 (Nat.le_refl _))
      clear hb2 hk2
      go_wp2_with fail
      refine (HTOK.out k v2 _ HB2.out hg1 HK2.out).mono ?_
      rintro e W3 ⟨rfl, hb3⟩
      have HB3 := Lib.hid (HB2.out.trans (hb3.mono HB2.out.size))
      have HO3 := Lib.hid (HO2.out.below hb3 (Nat.le_refl _))
      clear hb3
      generalize hq : tok okU (amg sg) (bts s) k = q at HM ⊢
      obtain _ | ⟨t, e2⟩ := q
      · clear hq
        obtain ⟨g0, g1, f0, f1⟩ := (HF0.out.below HB3.out hsz).facts
        have hs3 : w.heap.size < W3.heap.size := Nat.lt_of_lt_of_le hsz HB3.out.size
        simp only [tokVal]
        go_wp2
        obtain ⟨r0, r1⟩ := (HF0.out.below HB3.out hsz).put hs3 (.int .i64 10) (.int .i64 (k : Nat)) (.cells #[.int .i64 0, .string ByteArray.empty, .int .i64 0] 109)
        exact bodyPost_ret (v := .tuple #[.slice none 0 0, .agg #[.int .i64 10, .int .i64 (k : Nat)]]) (by simp [results, Tryz.results68, go_sem, r0, r1]) rfl
          (lexPost_fault (HJ.out.trans HM.out) (((((HB0.out.trans (HB3.out.mono HB0.out.size)).setCell (Nat.le_refl _) _).setCell (Nat.le_refl _) _)).alloc (by simpa [World.setCell] using Nat.le_of_lt hs3) _))
      · have HQ := Lib.hid hq
        have he2 := tok_le (by rw [bts_length]; exact hg1) hq
        rw [bts_length] at he2
        obtain ⟨i0, hi0, hz0, hz1, hz2⟩ := info_parts tok_info
        have I1 := Lib.hid hi0
        have I2 := Lib.hid hz0
        have I3 := Lib.hid hz1
        have I4 := Lib.hid hz2
        have hs3 : w.heap.size < W3.heap.size := Nat.lt_of_lt_of_le hsz HB3.out.size
        clear hq hi0 hz0 hz1 hz2
        simp only [tokVal]
        by_cases hkd : t.kind = 0
        · have tk : (t.kind == 0) = true := by simp [hkd]
          have HE := Lib.hid (HM.out.trans (if_pos hkd))
          clear hkd
          go_wp2_with (at_builtin; refine wpList_append_own _ rfl (.tmp 39) (.tmp 41) 67 rfl W0.heap.size 109 i0 _ 3 32 Tryz.underlying67 I1.out I2.out I3.out I4.out rfl (by decide) _ l.length (toksCells l) rfl (HO3.out.below (((Below.refl W3.heap.size W3).alloc (Nat.le_refl _) _).alloc (by simp) _) (Nat.le_refl _)) ⟨W3.heap.size + 1, 0, none⟩ 1 1 (tokCells t) rfl rfl (tokCells_new _ t _ (by simp)) (tokCells_one t) (by unfold maxLen; omega) (by omega) (by have := HB3.out.size; simp; omega) ?_; intro v4 W4 hown4 hg4 hx; clear hx; obtain ⟨kk, hb4⟩ := grown_new HO3.out HB3.out hg4; obtain ⟨g0, g1, f0, f1⟩ := (HF0.out.below hb4 hsz).facts; have HB4 := Lib.hid hb4; have HO4 := Lib.hid (OwnT.snoc hown4); clear hown4 hg4 hb4)
          exact bodyPost_ret (v := .tuple #[v4, .agg #[.int .i64 0, .int .i64 0]]) (by simp [results, Tryz.results68, go_sem, g0, g1]) rfl
            (lexPost_end (HJ.out.trans HE.out) ((HO4.out.setFar hsz _).setFar hsz _) HB0.out.size (((HB0.out.trans (HB4.out.mono HB0.out.size)).setCell (Nat.le_refl _) _).setCell (Nat.le_refl _) _))
        · have tk : (t.kind == 0) = false := by simp [hkd]
          have HE := Lib.hid (HM.out.trans (if_neg hkd))
          clear hkd
          go_wp2_with (at_builtin; refine wpList_append_own _ rfl (.tmp 39) (.tmp 41) 67 rfl W0.heap.size 109 i0 _ 3 32 Tryz.underlying67 I1.out I2.out I3.out I4.out rfl (by decide) _ l.length (toksCells l) rfl (HO3.out.below (((Below.refl W3.heap.size W3).alloc (Nat.le_refl _) _).alloc (by simp) _) (Nat.le_refl _)) ⟨W3.heap.size + 1, 0, none⟩ 1 1 (tokCells t) rfl rfl (tokCells_new _ t _ (by simp)) (tokCells_one t) (by unfold maxLen; omega) (by omega) (by have := HB3.out.size; simp; omega) ?_; intro v4 W4 hown4 hg4 hx; clear hx; obtain ⟨kk, hb4⟩ := grown_new HO3.out HB3.out hg4; obtain ⟨g0, g1, f0, f1⟩ := (HF0.out.below hb4 hsz).facts; have HB4 := Lib.hid hb4; have HO4 := Lib.hid (OwnT.snoc hown4); clear hown4 hg4 hb4)
          obtain ⟨a4, c4, rfl⟩ := HO4.out.form
          go_roundw
          case rel => exact ⟨HB4.out, e2, l ++ [t], he2, rfl, HO4.out, by simp; omega, HJ.out.trans HE.out⟩
          case measure => simp [lenOf]; omega
theorem lexTokens_any (s sg : ByteArray) (w : World) (hT : Tabs w) (hs : s.size ≤ 9223372036854775807) :
    Calls Tryz.prog 68 #[.string s, .string sg] w (LexPost w.heap.size w (toks okU (amg sg) (bts s))) := by
  unfold toks
  rw [bts_length]
  by_cases h : 8192 < s.size
  · rw [if_pos h]
    exact (lexTokens_long s sg w hs h).mono fun e w' ⟨he, hb⟩ => by rw [he]; exact lexPost_fault rfl hb
  · rw [if_neg h]
    exact lexTokens_short s sg w hT (by omega)
end Go.Proofs.YtleclhnlojalbaaGreatDoor
namespace Go.Proofs.YtleclhnlojalbaaGreatDoor
open Go.RowKit

/-! ### what stands at a place hangs on what follows -/
theorem stA_drop (zs : List Int) (p : Int → Bool) (i j : Nat) : stA zs p (i + j) = stA (zs.drop i) p j := by
  unfold stA
  rw [List.length_drop]
  have e : zs.getD (i + j) 0 = (zs.drop i).getD j 0 := by simp [List.getD]
  rw [e]
  by_cases h : i + j < zs.length
  · rw [decide_eq_true h, decide_eq_true (by omega)]
  · rw [decide_eq_false h, decide_eq_false (by omega)]
theorem runTo_drop (zs : List Int) (p : Int → Bool) (i j : Nat) : runTo zs p (i + j) = i + runTo (zs.drop i) p j := by
  unfold runTo
  rw [List.drop_drop]
  omega
theorem sub_drop (zs : List Int) (i a b : Nat) : sub zs (i + a) (i + b) = sub (zs.drop i) a b := by
  unfold sub
  rw [List.drop_drop, show i + b - (i + a) = b - a by omega]
theorem minusTo_drop (zs : List Int) (i : Nat) : minusTo zs i = i + minusTo (zs.drop i) 0 := by
  unfold minusTo
  rw [show stA zs (isC 45) i = stA (zs.drop i) (isC 45) 0 from stA_drop zs (isC 45) i 0]
  split <;> omega
theorem numEnd_drop (zs : List Int) (i : Nat) : numEnd zs i = i + numEnd (zs.drop i) 0 := by
  unfold numEnd
  rw [minusTo_drop, runTo_drop]
theorem numBad_drop (zs : List Int) (i : Nat) : numBad zs i = numBad (zs.drop i) 0 := by
  unfold numBad zeroAhead
  rw [minusTo_drop, runTo_drop, stA_drop, stA_drop, show stA zs (isC 45) i = stA (zs.drop i) (isC 45) 0 from stA_drop zs (isC 45) i 0]
  rw [show i + runTo (zs.drop i) isDig (minusTo (zs.drop i) 0) - (i + minusTo (zs.drop i) 0) = runTo (zs.drop i) isDig (minusTo (zs.drop i) 0) - minusTo (zs.drop i) 0 by omega]
theorem quoEnd_drop (zs : List Int) (i : Nat) : quoEnd zs i = i + quoEnd (zs.drop i) 0 := by
  unfold quoEnd
  exact runTo_drop zs isPlain i 1
theorem quoBad_drop (ok : List Int → Bool) (zs : List Int) (i : Nat) : quoBad ok zs i = quoBad ok (zs.drop i) 0 := by
  unfold quoBad
  rw [quoEnd_drop, stA_drop, sub_drop]
theorem begins_drop (zs : List Int) (i : Nat) : begins zs i = begins (zs.drop i) 0 := by
  unfold begins
  rw [show stA zs isDig i = stA (zs.drop i) isDig 0 from stA_drop zs isDig i 0, show stA zs (isC 45) i = stA (zs.drop i) (isC 45) 0 from stA_drop zs (isC 45) i 0, stA_drop]
def shiftT (i : Nat) (x : Tok × Nat) : Tok × Nat := (⟨x.1.kind, x.1.text, i + x.1.place⟩, i + x.2)
theorem tok_drop (ok : List Int → Bool) (sg : Int → Bool) (zs : List Int) (i : Nat) (hi : i ≤ zs.length) : tok ok sg zs i = (tok ok sg (zs.drop i) 0).map (shiftT i) := by
  have h1 : ∀ p, stA zs p i = stA (zs.drop i) p 0 := fun p => stA_drop zs p i 0
  have h2 : ∀ p, runTo zs p i = i + runTo (zs.drop i) p 0 := fun p => runTo_drop zs p i 0
  have h3 : ∀ a b, sub zs (i + a) (i + b) = sub (zs.drop i) a b := sub_drop zs i
  have h4 : ∀ b, sub zs i (i + b) = sub (zs.drop i) 0 b := fun b => sub_drop zs i 0 b
  have hl : (zs.drop i).length = zs.length - i := List.length_drop
  by_cases he : i = zs.length
  · rw [tok_end he, tok_end (i := 0) (by omega)]
    rfl
  have hi' : i < zs.length := by omega
  have h0 : 0 < (zs.drop i).length := by omega
  cases c1 : stA (zs.drop i) isLet 0
  rotate_left
  · rw [tok_name hi' (by rw [h1]; exact c1), tok_name h0 c1, h2, h4]
    rfl
  cases c2 : begins (zs.drop i) 0
  rotate_left
  · rw [tok_num hi' (by rw [h1]; exact c1) (by rw [begins_drop]; exact c2), tok_num h0 c1 c2, numBad_drop, numEnd_drop, h4]
    cases numBad (zs.drop i) 0 <;> rfl
  cases c3 : stA (zs.drop i) (isC 34) 0
  rotate_left
  · rw [tok_quo hi' (by rw [h1]; exact c1) (by rw [begins_drop]; exact c2) (by rw [h1]; exact c3), tok_quo h0 c1 c2 c3, quoBad_drop, quoEnd_drop, h3]
    cases quoBad ok (zs.drop i) 0
    · rw [if_neg (by decide), if_neg (by decide), Nat.add_assoc]
      rfl
    · rfl
  cases c4 : stA (zs.drop i) sg 0
  · rw [tok_none hi' (by rw [h1]; exact c1) (by rw [begins_drop]; exact c2) (by rw [h1]; exact c3) (by rw [h1]; exact c4), tok_none h0 c1 c2 c3 c4]
    rfl
  · rw [tok_sign hi' (by rw [h1]; exact c1) (by rw [begins_drop]; exact c2) (by rw [h1]; exact c3) (by rw [h1]; exact c4), tok_sign h0 c1 c2 c3 c4, h4]
    rfl
/-! ### the text of a number -/
theorem getD_take (zs : List Int) (k j : Nat) (h : j < k) : (zs.take k).getD j 0 = zs.getD j 0 := by
  simp [List.getD, h]
theorem stA_take (zs : List Int) (p : Int → Bool) (k j : Nat) (h : j < k) : stA (zs.take k) p j = stA zs p j := by
  unfold stA
  rw [getD_take zs k j h, List.length_take]
  by_cases hz : j < zs.length
  · rw [decide_eq_true hz, decide_eq_true (by omega)]
  · rw [decide_eq_false hz, decide_eq_false (by omega)]
theorem numEnd_len (zs : List Int) : minusTo zs 0 ≤ numEnd zs 0 ∧ numEnd zs 0 ≤ zs.length := by
  constructor
  · exact runTo_ge _ _ _
  · unfold numEnd
    refine runTo_le _ _ _ ?_
    rcases minusTo_cases zs with ⟨_, h, h2, _⟩ | ⟨_, h⟩ <;> omega
theorem take_minus (zs : List Int) : minusTo (zs.take (numEnd zs 0)) 0 = minusTo zs 0 ∧ (0 < numEnd zs 0 → stA (zs.take (numEnd zs 0)) (isC 45) 0 = stA zs (isC 45) 0) := by
  have h1 : 0 < numEnd zs 0 → stA (zs.take (numEnd zs 0)) (isC 45) 0 = stA zs (isC 45) 0 := stA_take zs _ _ 0
  refine ⟨?_, h1⟩
  have hl := (numEnd_len zs).1
  rcases minusTo_cases zs with ⟨a1, a2, _, _⟩ | ⟨a1, a2⟩
  · unfold minusTo at a2 ⊢
    rw [h1 (by unfold minusTo at hl; omega)]
  · rw [a2]
    unfold minusTo
    by_cases h0 : 0 < numEnd zs 0
    · rw [h1 h0, if_neg (by rw [a1]; decide)]
    · rw [stA_ge (by rw [List.length_take]; omega)]
      rfl
theorem take_numEnd (zs : List Int) : numEnd (zs.take (numEnd zs 0)) 0 = numEnd zs 0 ∧ (zs.take (numEnd zs 0)).length = numEnd zs 0 := by
  obtain ⟨h1, h2⟩ := numEnd_len zs
  have hl : (zs.take (numEnd zs 0)).length = numEnd zs 0 := by rw [List.length_take]; omega
  refine ⟨?_, hl⟩
  rw [show numEnd (zs.take (numEnd zs 0)) 0 = runTo (zs.take (numEnd zs 0)) isDig (minusTo (zs.take (numEnd zs 0)) 0) from rfl, (take_minus zs).1]
  refine runTo_unique h1 (fun j a b => ?_) (stA_ge (by rw [hl]; exact Nat.le_refl _))
  rw [stA_take zs _ _ j b]
  exact runTo_all zs isDig (minusTo zs 0) j a b
theorem numBad_text (zs : List Int) : numBad zs 0 = (!goodN (zs.take (numEnd zs 0)) || stA zs isLet (numEnd zs 0)) := by
  obtain ⟨e1, e2⟩ := take_numEnd zs
  obtain ⟨m1, m2⟩ := take_minus zs
  obtain ⟨h1, h2⟩ := numEnd_len zs
  unfold goodN
  rw [e1, e2, decide_eq_true rfl, Bool.and_true, Bool.not_not]
  unfold numBad zeroAhead
  rw [m1]
  have r1 : runTo zs isDig (minusTo zs 0) = numEnd zs 0 := rfl
  have r2 : runTo (zs.take (numEnd zs 0)) isDig (minusTo zs 0) = numEnd zs 0 := by
    rw [← m1]
    exact e1
  rw [r1, r2]
  by_cases hk : numEnd zs 0 - minusTo zs 0 = 0
  · rw [decide_eq_true hk]
    simp
  · rw [stA_take zs (isC 48) _ _ (by omega), m2 (by omega), stA_ge (p := isLet) (i := numEnd zs 0) (zs := zs.take (numEnd zs 0)) (by rw [e2]; exact Nat.le_refl _)]
    generalize decide (numEnd zs 0 - minusTo zs 0 = 0) = a
    generalize decide (20 < numEnd zs 0 - minusTo zs 0) = b
    generalize stA zs isLet (numEnd zs 0) = l
    generalize (stA zs (isC 48) (minusTo zs 0) && (stA zs (isC 45) 0 || decide (1 < numEnd zs 0 - minusTo zs 0))) = z
    cases a <;> cases b <;> cases l <;> cases z <;> rfl

/-! ### tokens and their texts -/
def full (t : Tok) : List Int := if t.kind = 3 then 34 :: (t.text ++ [34]) else t.text
theorem full_plain (k : Int) (x : List Int) (p : Nat) (h : k ≠ 3) : full ⟨k, x, p⟩ = x := if_neg h
theorem full_quo (x : List Int) (p : Nat) : full ⟨3, x, p⟩ = 34 :: (x ++ [34]) := if_pos rfl
theorem kind_iff {k : Int} {ss : List Int} (hk : k ≠ 0) (h0 : ss ≠ []) : (k = 0 ↔ ss = []) := ⟨fun h => absurd h hk, fun h => absurd h h0⟩
def Fine (ok : List Int → Bool) (sg : Int → Bool) (t : Tok) : Prop :=
  (t.kind = 0 ∧ t.text = []) ∨
  (t.kind = 1 ∧ t.text ≠ [] ∧ isLet (t.text.getD 0 0) = true ∧ ∀ c ∈ t.text, (isLet c || isDig c) = true) ∨
  (t.kind = 2 ∧ goodN t.text = true) ∨
  (t.kind = 3 ∧ (∀ c ∈ t.text, isPlain c = true) ∧ ok t.text = true) ∨
  (t.kind = 4 ∧ ∃ c, t.text = [c] ∧ sg c = true ∧ isLet c = false ∧ isDig c = false ∧ c ≠ 34)
theorem sub_zero (zs : List Int) (k : Nat) : sub zs 0 k = zs.take k := by unfold sub; simp
theorem runTo_zero (zs : List Int) (p : Int → Bool) : runTo zs p 0 = (zs.takeWhile p).length := by unfold runTo; simp
theorem take_run (zs : List Int) (p : Int → Bool) : zs.take (runTo zs p 0) = zs.takeWhile p := by
  rw [runTo_zero]
  conv => lhs; rw [← List.takeWhile_append_dropWhile (p := p) (l := zs)]
  rw [List.takeWhile_append_dropWhile, ← List.prefix_iff_eq_take.1 (List.takeWhile_prefix p)]
theorem mem_takeWhile {zs : List Int} {p : Int → Bool} {c : Int} (h : c ∈ zs.takeWhile p) : p c = true := by
  have := List.all_takeWhile (p := p) (l := zs)
  exact List.all_eq_true.1 this c h
theorem tok_fine {ok : List Int → Bool} {sg : Int → Bool} {ss : List Int} {t : Tok} {e : Nat} (h : tok ok sg ss 0 = some (t, e)) :
    Fine ok sg t ∧ t.place = 0 ∧ e = (full t).length ∧ ss.take e = full t ∧ (t.kind = 0 ↔ ss = []) := by
  by_cases h0 : ss = []
  · subst h0
    rw [tok_end (zs := []) (i := 0) rfl] at h
    cases h
    exact ⟨.inl ⟨rfl, rfl⟩, rfl, rfl, rfl, by simp⟩
  have hl : 0 < ss.length := List.length_pos_iff.2 h0
  cases c1 : stA ss isLet 0
  rotate_left
  · rw [tok_name hl c1] at h
    cases h
    have hq : stA ss (fun c => isLet c || isDig c) 0 = true := by
      rw [stA_of hl] at c1 ⊢
      simp only [c1, Bool.true_or]
    have hne : 0 < runTo ss (fun c => isLet c || isDig c) 0 := by rw [runTo_step hq]; exact runTo_ge _ _ _
    have hle := runTo_le ss (fun c => isLet c || isDig c) 0 (Nat.zero_le _)
    refine ⟨.inr (.inl ⟨rfl, ?_, ?_, ?_⟩), rfl, ?_, ?_, ?_⟩
    · intro he
      have := congrArg List.length he
      rw [sub_zero, List.length_take, List.length_nil] at this
      omega
    · show isLet ((sub ss 0 _).getD 0 0) = true
      rw [sub_zero, getD_take _ _ _ hne]
      exact stA_p c1
    · intro c hc
      rw [sub_zero, take_run] at hc
      exact mem_takeWhile hc
    · rw [full_plain _ _ _ (by decide), sub_zero, List.length_take]
      omega
    · rw [full_plain _ _ _ (by decide), sub_zero]
    · exact kind_iff (show (1 : Int) ≠ 0 by decide) h0
  cases c2 : begins ss 0
  rotate_left
  · rw [tok_num hl c1 c2] at h
    cases hb : numBad ss 0
    · rw [hb, if_neg (by decide)] at h
      cases h
      have hg : goodN (ss.take (numEnd ss 0)) = true := by
        rw [numBad_text, Bool.or_eq_false_iff, Bool.not_eq_false'] at hb
        exact hb.1
      have hle := (numEnd_len ss).2
      refine ⟨.inr (.inr (.inl ⟨rfl, by rw [sub_zero]; exact hg⟩)), rfl, ?_, ?_, ?_⟩
      · rw [full_plain _ _ _ (by decide), sub_zero, List.length_take]
        omega
      · rw [full_plain _ _ _ (by decide), sub_zero]
      · exact kind_iff (show (2 : Int) ≠ 0 by decide) h0
    · rw [hb, if_pos rfl] at h
      cases h
  cases c3 : stA ss (isC 34) 0
  rotate_left
  · rw [tok_quo hl c1 c2 c3] at h
    cases hb : quoBad ok ss 0
    · rw [hb, if_neg (by decide)] at h
      cases h
      unfold quoBad at hb
      rw [Bool.or_eq_false_iff, Bool.not_eq_false', Bool.not_eq_false'] at hb
      have hlt := stA_lt hb.1
      have h34 : ss.getD 0 0 = 34 := of_decide_eq_true (show decide (ss.getD 0 0 = 34) = true from stA_p c3)
      have he34 : ss.getD (quoEnd ss 0) 0 = 34 := of_decide_eq_true (show decide (ss.getD (quoEnd ss 0) 0 = 34) = true from stA_p hb.1)
      have hge : 1 ≤ quoEnd ss 0 := runTo_ge ss isPlain 1
      have hsub : ss = 34 :: (sub ss 1 (quoEnd ss 0) ++ 34 :: ss.drop (quoEnd ss 0 + 1)) := by
        have e1 : ss = 34 :: ss.drop 1 := by
          conv => lhs; rw [show ss = ss.drop 0 from rfl, drop_cons hl, h34]
        have e2 : ss.drop 1 = sub ss 1 (quoEnd ss 0) ++ ss.drop (quoEnd ss 0) := by
          unfold sub
          conv => lhs; rw [← List.take_append_drop (quoEnd ss 0 - 1) (ss.drop 1)]
          rw [List.drop_drop, show 1 + (quoEnd ss 0 - 1) = quoEnd ss 0 by omega]
        have e3 : ss.drop (quoEnd ss 0) = 34 :: ss.drop (quoEnd ss 0 + 1) := by rw [drop_cons hlt, he34]
        rw [← e3, ← e2]
        exact e1
      have hlen : (sub ss 1 (quoEnd ss 0)).length = quoEnd ss 0 - 1 := by
        unfold sub
        rw [List.length_take, List.length_drop]
        omega
      refine ⟨.inr (.inr (.inr (.inl ⟨rfl, ?_, hb.2⟩))), rfl, ?_, ?_, ?_⟩
      · intro c hc
        obtain ⟨j, hj, rfl⟩ := List.mem_iff_getElem.1 hc
        have hj' : j < quoEnd ss 0 - 1 := by rw [← hlen]; exact hj
        have hp := stA_p (runTo_all ss isPlain 1 (1 + j) (by omega) (by show 1 + j < quoEnd ss 0; omega))
        have e : (sub ss (0 + 1) (quoEnd ss 0))[j] = ss.getD (1 + j) 0 := by
          have h2 : j < ss.length - 1 := by omega
          have h3 : j + 1 < ss.length := by omega
          unfold sub
          rw [Nat.add_comm 1 j]
          simp [List.getD, h3]
        rw [e]
        exact hp
      · rw [full_quo]
        simp only [List.length_cons, List.length_append, List.length_nil]
        show _ = (sub ss 1 (quoEnd ss 0)).length + (0 + 1) + 1
        omega
      · rw [full_quo]
        show ss.take (quoEnd ss 0 + 1) = 34 :: (sub ss 1 (quoEnd ss 0) ++ [34])
        have e := congrArg (List.take (quoEnd ss 0 + 1)) hsub
        rw [e, List.take_succ_cons, show sub ss 1 (quoEnd ss 0) ++ 34 :: ss.drop (quoEnd ss 0 + 1) = (sub ss 1 (quoEnd ss 0) ++ [34]) ++ ss.drop (quoEnd ss 0 + 1) by simp]
        rw [List.take_append_of_le_length (by simp; omega), List.take_of_length_le (by simp; omega)]
      · exact kind_iff (show (3 : Int) ≠ 0 by decide) h0
    · rw [hb, if_pos rfl] at h
      cases h
  cases c4 : stA ss sg 0
  · rw [tok_none hl c1 c2 c3 c4] at h
    cases h
  · rw [tok_sign hl c1 c2 c3 c4] at h
    cases h
    have e : ss.take 1 = [ss.getD 0 0] := by
      conv => lhs; rw [show ss = ss.drop 0 from rfl, drop_cons hl]
      rfl
    unfold begins at c2
    rw [Bool.or_eq_false_iff] at c2
    rw [stA_of hl] at c1 c3 c4
    rw [stA_of hl] at c2
    refine ⟨.inr (.inr (.inr (.inr ⟨rfl, ss.getD 0 0, ?_, c4, c1, c2.1, ?_⟩))), rfl, ?_, ?_, ?_⟩
    · rw [sub_zero]; exact e
    · exact of_decide_eq_false c3
    · rw [full_plain _ _ _ (by decide), sub_zero, List.length_take]
      omega
    · rw [full_plain _ _ _ (by decide), sub_zero]
    · exact kind_iff (show (4 : Int) ≠ 0 by decide) h0
end Go.Proofs.YtleclhnlojalbaaGreatDoor
namespace Go.Proofs.YtleclhnlojalbaaGreatDoor
open Go.RowKit

theorem gap_blank {zs : List Int} {i : Nat} (h : stA zs isBlank i = true) : gap zs i = gap zs (i + 1) := by
  unfold gap
  rw [runTo_step h]
theorem slash_not_blank {zs : List Int} {i : Nat} (h : slash2 zs i = true) : stA zs isBlank i = false := by
  unfold slash2 at h
  rw [Bool.and_eq_true] at h
  have e := of_decide_eq_true (show decide (zs.getD i 0 = 47) = true from stA_p h.1)
  rw [stA_of (stA_lt h.1)]
  unfold isBlank
  exact decide_eq_false (by omega)
theorem gap_remark {zs : List Int} {i : Nat} (h : slash2 zs i = true) : gap zs i = gap zs (runTo zs notLf i) := by
  unfold gap
  rw [runTo_stop (slash_not_blank h), gapF_step h]
theorem gap_stop {zs : List Int} {i : Nat} (h1 : stA zs isBlank i = false) (h2 : slash2 zs i = false) : gap zs i = i := by
  unfold gap
  rw [runTo_stop h1, gapF_stop _ h2]
theorem gap_end {zs : List Int} {i : Nat} (h : zs.length ≤ i) : gap zs i = i :=
  gap_stop (stA_ge h) (by unfold slash2; rw [stA_ge h, Bool.false_and])
end Go.Proofs.YtleclhnlojalbaaGreatDoor
namespace Go.Proofs.YtleclhnlojalbaaGreatDoor
open Go.RowKit

def Chain (ok : List Int → Bool) (sg : Int → Bool) (zs : List Int) : Nat → List Tok → Prop
  | _, [] => False
  | i, t :: r => ∃ b, tok ok sg zs (gap zs i) = some (t, b) ∧ ((t.kind = 0 ∧ r = []) ∨ (t.kind ≠ 0 ∧ Chain ok sg zs b r))
theorem chain_of {ok : List Int → Bool} {sg : Int → Bool} {zs : List Int} {l : List Tok} {p : Nat} : ∀ (f i : Nat) (l0 : List Tok), f + l0.length = 2049 → l0.length ≤ 2048 → toksF ok sg zs f i l0 = (l, 0, p) → ∃ r, l = l0 ++ r ∧ Chain ok sg zs i r ∧ l.length ≤ 2048
  | 0, i, l0, hf, hl, _ => by omega
  | f + 1, i, l0, hf, hl, h => by
    simp only [toksF] at h
    by_cases h1 : l0.length = 2048
    · rw [if_pos h1] at h
      simp at h
    · rw [if_neg h1] at h
      cases ht : tok ok sg zs (gap zs i) with
      | none =>
        rw [ht] at h
        simp at h
      | some x =>
        obtain ⟨t, e⟩ := x
        rw [ht] at h
        simp only at h
        by_cases hk : t.kind = 0
        · rw [if_pos hk] at h
          simp only [Prod.mk.injEq] at h
          obtain ⟨rfl, _, _⟩ := h
          exact ⟨[t], rfl, ⟨e, ht, .inl ⟨hk, rfl⟩⟩, by simp; omega⟩
        · rw [if_neg hk] at h
          obtain ⟨r, hr, hc, hlen⟩ := chain_of f e (l0 ++ [t]) (by simp; omega) (by simp; omega) h
          exact ⟨t :: r, by rw [hr]; simp, ⟨e, ht, .inr ⟨hk, hc⟩⟩, hlen⟩
theorem toks_chain {ok : List Int → Bool} {sg : Int → Bool} {zs : List Int} {l : List Tok} {p : Nat} (h : toks ok sg zs = (l, 0, p)) : Chain ok sg zs 0 l ∧ l.length ≤ 2048 := by
  unfold toks at h
  split at h
  · simp at h
  · obtain ⟨r, hr, hc, hl⟩ := chain_of 2049 0 [] rfl (Nat.zero_le _) h
    rw [List.nil_append] at hr
    subst hr
    exact ⟨hc, hl⟩
theorem tok_found {ok : List Int → Bool} {sg : Int → Bool} {zs : List Int} {i : Nat} {t : Tok} {e : Nat} (hi : i ≤ zs.length) (h : tok ok sg zs i = some (t, e)) :
    Fine ok sg t ∧ t.place = i ∧ e = i + (full t).length ∧ sub zs i e = full t ∧ (t.kind = 0 ↔ i = zs.length) := by
  rw [tok_drop ok sg zs i hi] at h
  cases h0 : tok ok sg (zs.drop i) 0 with
  | none => rw [h0] at h; cases h
  | some x =>
    obtain ⟨t0, e0⟩ := x
    rw [h0] at h
    obtain ⟨f1, f2, f3, f4, f5⟩ := tok_fine h0
    have hx : shiftT i (t0, e0) = (t, e) := by injection h
    unfold shiftT at hx
    simp only [Prod.mk.injEq] at hx
    obtain ⟨rfl, rfl⟩ := hx
    have hfull : full ⟨t0.kind, t0.text, i + t0.place⟩ = full t0 := rfl
    refine ⟨f1, ?_, ?_, ?_, ?_⟩
    · show i + t0.place = i
      omega
    · rw [hfull]; omega
    · rw [hfull]
      have := sub_drop zs i 0 e0
      rw [Nat.add_zero] at this
      rw [this, sub_zero]
      exact f4
    · show t0.kind = 0 ↔ _
      rw [f5, List.drop_eq_nil_iff]
      omega
def Left (ok : List Int → Bool) (sg : Int → Bool) (zs : List Int) (i : Nat) (r : List Tok) : Prop := (r = [] ∧ i = zs.length) ∨ Chain ok sg zs i r
theorem left_step {ok : List Int → Bool} {sg : Int → Bool} {zs : List Int} {i : Nat} {t : Tok} {r : List Tok} (hi : i ≤ zs.length) (h : Left ok sg zs i (t :: r)) :
    Fine ok sg t ∧ t.place = gap zs i ∧ gap zs i + (full t).length ≤ zs.length ∧ sub zs (gap zs i) (gap zs i + (full t).length) = full t ∧ (t.kind = 0 ↔ r = []) ∧ Left ok sg zs (gap zs i + (full t).length) r := by
  rcases h with ⟨h, _⟩ | ⟨b, hb, hr⟩
  · cases h
  · have hg := gap_le zs i hi
    have hle := tok_le hg hb
    obtain ⟨f1, f2, f3, f4, f5⟩ := tok_found hg hb
    subst f3
    refine ⟨f1, f2, hle, f4, ?_, ?_⟩
    · rcases hr with ⟨hk, hr⟩ | ⟨hk, hr⟩
      · exact ⟨fun _ => hr, fun _ => hk⟩
      · refine ⟨fun h => absurd h hk, fun h => ?_⟩
        subst h
        exact hr.elim
    · rcases hr with ⟨hk, hr⟩ | ⟨hk, hr⟩
      · refine .inl ⟨hr, ?_⟩
        have h1 := f5.1 hk
        have h2 : full t = [] := by
          rcases f1 with ⟨_, h⟩ | ⟨h, _⟩ | ⟨h, _⟩ | ⟨h, _⟩ | ⟨h, _⟩
          · unfold full
            rw [if_neg (by rw [hk]; decide)]
            exact h
          all_goals (rw [hk] at h; exact absurd h (by decide))
        rw [h2]
        simpa using h1
      · exact .inr hr
def EndLast : List Tok → Prop
  | [] => False
  | t :: r => (t.kind = 0 ∧ r = []) ∨ (t.kind ≠ 0 ∧ EndLast r)
theorem chain_last {ok : List Int → Bool} {sg : Int → Bool} {zs : List Int} : ∀ (l : List Tok) (i : Nat), Chain ok sg zs i l → EndLast l
  | [], _, h => h
  | t :: r, i, ⟨b, _, h⟩ => by
    rcases h with h | ⟨hk, hc⟩
    · exact .inl h
    · exact .inr ⟨hk, chain_last r b hc⟩

/-! ### gaps -/
/-! ### a text made anew -/
end Go.Proofs.YtleclhnlojalbaaGreatDoor
