/-
  What a law over a plan and bytes has in hand: a made schema's enums and defaults, bytes that came in. Conditions: those that each theorem names.
-/
import Derived.Test.YtiknhkkeifemcaaGreatDoorPkM2
import Derived.Test.YtiknhkkeifemcaaGreatDoorPkM4
import Derived.Test.YtiknhkkeifemcaaGreatDoorPkM7
import Derived.Test.YtiknhkkeifemcaaGreatDoorPkM8
import Derived.Test.YtiknhkkeifemcaaGreatDoorPkM11
import Derived.Test.YtiknhkkeifemcaaGreatDoorPkM17
import Derived.Test.YtiknhkkeifemcaaGreatDoorPkM19
import Derived.Test.YtiknhkkeifemcaaGreatDoorPkM20
import Derived.Test.YtiknhkkeifemcaaGreatDoorPkM21
import Derived.Test.YtiknhkkeifemcaaGreatDoorPkM23
import Derived.Test.YtiknhkkeifemcaaGreatDoorPkM24
import Derived.Test.YtiknhkkeifemcaaGreatDoorPkM25
import Derived.Test.YtiknhkkeifemcaaGreatDoorPkM29
import Derived.Deep.RegionHeld3
namespace Go.Proofs.YtiknhkkeifemcaaGreatDoor
open Go.RowKit

theorem insD_sum (lt : Nat → Nat → Bool) (g : Nat → Nat) (x : Nat) : ∀ l : List Nat, ((insD lt x l).map g).sum = g x + (l.map g).sum
  | [] => by simp [insD]
  | y :: r => by
    rw [insD]
    split
    · simp
    · rw [List.map_cons, List.sum_cons, insD_sum lt g x r, List.map_cons, List.sum_cons]
      omega
theorem sortD_sum (lt : Nat → Nat → Bool) (g : Nat → Nat) : ∀ n, ((sortD lt n).map g).sum = ((List.range n).map g).sum
  | 0 => rfl
  | n + 1 => by
    rw [sortD, insD_sum, sortD_sum lt g n, List.range_succ, List.map_append, List.sum_append]
    simp
    omega
structure NamOk (ss : List SRec) (es : List SCho) : Prop where
  flds : ∀ r ∈ ss, r.fields.length ≤ 16 ∧ ∀ f ∈ r.fields, (quot (bts f.name)).length ≤ 20
  nams : ∀ c ∈ es, ∀ s ∈ c.names, (quot (bts s)).length ≤ 20
theorem recJ_mem {ss : List SRec} {ref : Int} : recJ ss ref = [] ∨ ∃ r ∈ ss, recJ ss ref = r.fields := by
  unfold recJ
  by_cases h : ref.toNat < ss.length
  · rw [List.getD, List.getElem?_eq_getElem h]
    exact .inr ⟨_, List.getElem_mem h, rfl⟩
  · rw [List.getD, List.getElem?_eq_none (by omega)]
    exact .inl rfl
theorem namJ_len {ss : List SRec} {es : List SCho} (h : NamOk ss es) (ref : Int) (n : Nat) : (quot (bts (namJ es ref n))).length ≤ 20 := by
  have h0 : (quot (bts ⟨#[]⟩)).length ≤ 20 := by decide
  unfold namJ
  by_cases h1 : ref.toNat < es.length
  · have hn : es.getD ref.toNat ⟨⟨#[]⟩, []⟩ = es[ref.toNat] := by rw [List.getD, List.getElem?_eq_getElem h1, Option.getD_some]
    rw [hn, List.getD]
    by_cases h2 : n < (es[ref.toNat]).names.length
    · rw [List.getElem?_eq_getElem h2]
      exact h.nams _ (List.getElem_mem h1) _ (List.getElem_mem h2)
    · rw [List.getElem?_eq_none (by omega)]
      exact h0
  · have hn : es.getD ref.toNat ⟨⟨#[]⟩, []⟩ = ⟨⟨#[]⟩, []⟩ := by rw [List.getD, List.getElem?_eq_none (by omega)]; rfl
    rw [hn]
    exact h0
theorem numJ_len {ss : List SRec} {es : List SCho} (h : NamOk ss es) (k : Nat) (ref : Int) (n : Nat) : (numJ es k ref n).length ≤ 24 := by
  unfold numJ
  split
  · unfold boolF; split <;> decide
  split
  · have := namJ_len h ref n; omega
  have := decS_len k n
  split
  · rw [List.length_cons, List.length_append, List.length_singleton]; omega
  · omega
theorem bytJ_len (k : Nat) (bs : List Int) : (bytJ k bs).length ≤ 6 * bs.length + 2 := by
  unfold bytJ
  split
  · exact (quot_len bs).2
  · rw [List.length_cons, List.length_append, List.length_singleton, digL_len]; omega
structure LenJ (nx : NextJ) : Prop where
  wt : ∀ k ref lists v m, Wt v m → (nx k ref lists v).length + 1 ≤ 750 * m
  nil : ∀ k ref lists, sortP k lists = 3 → (nx k ref lists nilV).length ≤ 2
theorem wt_parts {v : PV} {m : Nat} (h : Wt v m) : ∃ ms : List Nat, ms.length = v.kids.length ∧ (∀ j (hj : j < v.kids.length), Wt (v.kids[j]'hj) (ms.getD j 0)) ∧ 1 + v.bytes.length + ms.sum ≤ m := by
  cases h with
  | mk n bs ks h ms hl hs _ hm => exact ⟨ms, hl, hs, hm⟩
theorem kidJ_len {ss : List SRec} {es : List SCho} (hN : NamOk ss es) {nx : NextJ} (h : LenJ nx) (k : Nat) (ref lists : Int) {v : PV} {m : Nat} (hw : Wt v m) : (kidJ es nx k ref lists v).length + 1 ≤ 750 * m := by
  obtain ⟨ms, _, _, hm⟩ := wt_parts hw
  unfold kidJ
  split
  · have := numJ_len hN k ref v.num; omega
  split
  · have := bytJ_len k v.bytes; omega
  · exact h.wt _ _ _ _ _ hw
theorem elemJ_len {ss : List SRec} {es : List SCho} (hN : NamOk ss es) {nx : NextJ} (h : LenJ nx) (k : Nat) (ref lists : Int) {v : PV} {m : Nat} (hw : Wt v m) : (elemJ es nx k ref lists v).length + 1 ≤ 750 * m := by
  unfold elemJ
  split
  · exact h.wt _ _ _ _ _ hw
  · exact kidJ_len hN h k ref lists hw
theorem elemJ_nil {ss : List SRec} {es : List SCho} (hN : NamOk ss es) {nx : NextJ} (h : LenJ nx) (k : Nat) (ref lists : Int) (hs : sortP k lists ≠ 4) (h0 : sortP k lists ≠ 0) : (elemJ es nx k ref lists nilV).length ≤ 24 := by
  have h4 : sortP k lists ≤ 4 := by unfold sortP; split <;> (try split) <;> (try split) <;> (try split) <;> (try split) <;> omega
  unfold elemJ
  rw [if_neg hs]
  unfold kidJ
  split
  · exact numJ_len hN _ _ _
  split
  · have := bytJ_len k nilV.bytes
    have : nilV.bytes.length = 0 := rfl
    omega
  · have := h.nil k ref lists (by omega)
    omega
theorem fldsJ_len (es : List SCho) (nx : NextJ) (fs : List SFld) (q : PV) : ∀ (l : List Nat) (acc : List Int), (fldsJ es nx fs q l acc).length ≤ acc.length + (l.map fun i : Nat => 1 + (fldJ es nx [] (fs.getD i noSF) (kidN q i)).length).sum
  | [], acc => by simp [fldsJ]
  | i :: l, acc => by
    have ih := fldsJ_len es nx fs q l (acc ++ fldJ es nx (comJ acc) (fs.getD i noSF) (kidN q i))
    rw [fldsJ, List.map_cons, List.sum_cons]
    refine Nat.le_trans ih ?_
    rw [List.length_append]
    have hc : (fldJ es nx (comJ acc) (fs.getD i noSF) (kidN q i)).length ≤ 1 + (fldJ es nx [] (fs.getD i noSF) (kidN q i)).length := by
      unfold fldJ
      split
      · simp
      · rw [List.length_append, List.length_append]
        have : (comJ acc).length ≤ 1 := by unfold comJ; split <;> simp
        simp
        omega
    omega
theorem sum_bound {g : Nat → Nat} {ms : List Nat} : ∀ n, (∀ j, j < n → g j ≤ 46 + 750 * ms.getD j 0) → ((List.range n).map g).sum ≤ 46 * n + 750 * (ms.take n).sum
  | 0, _ => by simp
  | n + 1, h => by
    have ih := sum_bound n (fun j hj => h j (by omega))
    have h1 := h n (Nat.lt_succ_self n)
    have ht : (ms.take (n + 1)).sum = (ms.take n).sum + ms.getD n 0 := by
      by_cases h : n < ms.length
      · rw [List.take_succ_eq_append_getElem h, List.sum_append, List.getD, List.getElem?_eq_getElem h]
        simp
      · rw [List.take_of_length_le (by omega), List.take_of_length_le (by omega), List.getD, List.getElem?_eq_none (by omega)]
        simp
    rw [List.range_succ, List.map_append, List.sum_append, ht]
    simp only [List.map_cons, List.map_nil, List.sum_cons, List.sum_nil]
    omega
theorem take_sum_le (ms : List Nat) : ∀ n, (ms.take n).sum ≤ ms.sum := by
  intro n
  conv => rhs; rw [← List.take_append_drop n ms, List.sum_append]
  omega
theorem elsJ_len {f : Nat → List Int} {ms : List Nat} : ∀ n, (∀ j, j < n → (f j).length + 1 ≤ 750 * ms.getD j 0) → (elsJ f n).length ≤ 750 * (ms.take n).sum
  | 0, _ => by simp [elsJ]
  | n + 1, h => by
    have ih := elsJ_len n (fun j hj => h j (by omega))
    have h1 := h n (Nat.lt_succ_self n)
    have ht : (ms.take (n + 1)).sum = (ms.take n).sum + ms.getD n 0 := by
      by_cases h : n < ms.length
      · rw [List.take_succ_eq_append_getElem h, List.sum_append, List.getD, List.getElem?_eq_getElem h]
        simp
      · rw [List.take_of_length_le (by omega), List.take_of_length_le (by omega), List.getD, List.getElem?_eq_none (by omega)]
        simp
    rw [elsJ, List.length_append, List.length_append, ht]
    have : (if n = 0 then ([] : List Int) else [44]).length ≤ 1 := by split <;> simp
    omega
theorem conJ_len {ss : List SRec} {es : List SCho} (hN : NamOk ss es) (hK : ∀ r ∈ ss, ∀ f ∈ r.fields, sortP f.kind f.lists ≠ 0) {nx : NextJ} (h : LenJ nx) : LenJ (conJ ss es nx) := by
  refine ⟨fun k ref lists v m hw => ?_, fun k ref lists hs => ?_⟩
  · obtain ⟨ms, hml, hms, hm⟩ := wt_parts hw
    unfold conJ
    split
    · unfold listF
      have h1 := elsJ_len (f := fun j : Nat => elemJ es nx k ref (lists - 1) (kidN v j)) (ms := ms) v.kids.length (fun j hj => by
        have : kidN v j = v.kids[j] := by unfold kidN; rw [Int.toNat_natCast, List.getD, List.getElem?_eq_getElem hj, Option.getD_some]
        rw [this]
        exact elemJ_len hN h k ref (lists - 1) (hms j hj))
      have h2 := take_sum_le ms v.kids.length
      rw [List.length_cons, List.length_append, List.length_singleton]
      omega
    · unfold strJ
      have hrec : (recJ ss ref).length ≤ 16 ∧ (∀ f ∈ recJ ss ref, (quot (bts f.name)).length ≤ 20 ∧ sortP f.kind f.lists ≠ 0) := by
        rcases recJ_mem (ss := ss) (ref := ref) with h1 | ⟨r, hr, h1⟩
        · rw [h1]; exact ⟨by simp, fun f hf => by cases hf⟩
        · rw [h1]; exact ⟨(hN.flds r hr).1, fun f hf => ⟨(hN.flds r hr).2 f hf, hK r hr f hf⟩⟩
      generalize recJ ss ref = fs at *
      have h1 := fldsJ_len es nx fs v (ordJ fs) []
      unfold ordJ at h1
      rw [sortD_sum] at h1
      have h2 := sum_bound (ms := ms) (g := fun i : Nat => 1 + (fldJ es nx [] (fs.getD i noSF) (kidN v i)).length) fs.length (fun j hj => by
        show 1 + (fldJ es nx [] (fs.getD j noSF) (kidN v j)).length ≤ _
        rw [List.getD, List.getElem?_eq_getElem hj, Option.getD_some]
        obtain ⟨h3, h4⟩ := hrec.2 _ (List.getElem_mem hj)
        generalize fs[j] = f at *
        unfold fldJ
        split
        · simp; omega
        · rename_i hne
          rw [List.nil_append, List.length_append, List.length_cons]
          by_cases hjk : j < v.kids.length
          · have hk : kidN v j = v.kids[j] := by unfold kidN; rw [Int.toNat_natCast, List.getD, List.getElem?_eq_getElem hjk, Option.getD_some]
            rw [hk]
            have := elemJ_len hN h f.kind f.ref f.lists (hms j hjk)
            omega
          · have hk : kidN v j = nilV := by unfold kidN; rw [Int.toNat_natCast, List.getD, List.getElem?_eq_none (by omega)]; rfl
            rw [hk] at hne ⊢
            have := elemJ_nil hN h f.kind f.ref f.lists (fun h5 => hne ⟨h5, rfl⟩) h4
            omega)
      have h5 := take_sum_le ms fs.length
      have h6 : (([] : List Int)).length = 0 := rfl
      have h7 := hrec.1
      unfold ordJ
      rw [List.length_cons, List.length_append, List.length_singleton]
      omega
  · unfold conJ
    rw [if_pos hs]
    exact Nat.le_refl _
theorem encJ_len {ss : List SRec} {es : List SCho} (hN : NamOk ss es) (hK : ∀ r ∈ ss, ∀ f ∈ r.fields, sortP f.kind f.lists ≠ 0) : ∀ r, LenJ (encJ ss es r)
  | 0 => conJ_len hN hK ⟨fun _ _ _ _ m hw => by
      obtain ⟨ms, _, _, hm⟩ := wt_parts hw
      show 0 + 1 ≤ _
      omega, fun _ _ _ _ => Nat.zero_le _⟩
  | r + 1 => conJ_len hN hK (encJ_len hN hK r)
end Go.Proofs.YtiknhkkeifemcaaGreatDoor
namespace Go.Proofs.YtiknhkkeifemcaaGreatDoor
open Go.ChangeShapes Go.WideShapes Go.ChangeAt Go.RowKit Go.Shelf
theorem src_bytes {W W' : World} {a : Option Addr} {zs : List Int} (h : Bytes W a zs) (hw : ∀ p x, W.cell? p = some x → W'.cell? p = some x) (c : Nat) : Go.Src Tryz.prog 1 22 (.slice a zs.length c) zs.length (u8Cells zs) W' := by
  have hl : (u8Cells zs).length = zs.length * 1 := by simp [u8Cells]
  have h1 : ∀ u ∈ u8Cells zs, u.oneCell' = true := fun u hu => by
    obtain ⟨z, _, rfl⟩ := List.mem_map.1 hu
    rfl
  cases a with
  | none =>
    have : zs = [] := by
      rcases h0 : zs with _ | ⟨z, t⟩
      · rfl
      · obtain ⟨b, off, e, _⟩ := h.2 (by rw [h0]; exact List.cons_ne_nil _ _)
        cases e
    subst this
    exact Go.Src.ofNil W' Tryz.underlying22 c
  | some p =>
    refine Go.Src.ofSlice W' Tryz.underlying22 p zs.length c _ hl (fun j u hu => ?_) h1
    have hj : j < zs.length := by
      have := (List.getElem?_eq_some_iff.1 hu).1
      simpa [u8Cells] using this
    obtain ⟨b, off, e, hlt, hc⟩ := h.2 (fun h0 => by rw [h0] at hj; exact Nat.not_lt_zero _ hj)
    injection e with e
    subst e
    refine hw _ _ ?_
    rw [Addr.add_lit, hc j hj, ← hu]
    simp [u8Cells, List.getElem?_map, List.getElem?_eq_getElem hj, List.getD]
def oldS (S : Nat → Bool) (B T : Nat) : Nat → Bool := fun k => S k || decide (B ≤ k ∧ k < T)
theorem oldS_no {S : Nat → Bool} {B T k : Nat} : oldS S B T k = false ↔ S k = false ∧ ¬ (B ≤ k ∧ k < T) := by
  unfold oldS
  rw [Bool.or_eq_false_iff, decide_eq_false_iff_not]
theorem KidsIn.old {S : Nat → Bool} {w W : World} {l : List KV} (h : KidsIn S w l) (hb : Below w.heap.size w W) (T : Nat) : KidsIn (oldS S w.heap.size T) W l :=
  h.step hb.size (fun k hk hs => ⟨oldS_no.2 ⟨hs, by omega⟩, hb.block k hk⟩)
end Go.Proofs.YtiknhkkeifemcaaGreatDoor
namespace Go.Proofs.YtiknhkkeifemcaaGreatDoor
open Go.ChangeShapes Go.WideShapes Go.ChangeAt Go.RowKit Go.Shelf
theorem u8_info4 : (Tryz.prog.info? 5).map (fun i => (i.zero, i.size, i.bytes)) = some (some (.int .u8 0), 1, 1) := by kernel_rfl
end Go.Proofs.YtiknhkkeifemcaaGreatDoor
namespace Go.Proofs.YtiknhkkeifemcaaGreatDoor
open Go.ChangeShapes Go.WideShapes Go.ChangeAt Go.RowKit Go.Shelf

theorem nil_yes (c : Nat) (W : World) : (binOp .eql 22 (.slice none 0 c) (.slice none 0 0)).run Tryz.prog W = .ok (.bool true) W := by kernel_rfl
theorem nil_no (q : Addr) (n c : Nat) (W : World) : (binOp .eql 22 (.slice (some q) n c) (.slice none 0 0)).run Tryz.prog W = .ok (.bool false) W := by kernel_rfl
set_option maxRecDepth 100000 in
set_option maxHeartbeats 8000000 in
theorem bclone_any (w : World) (p : Option Addr) (zs : List Int) (c : Nat) (h : Bytes w p zs) (hl : zs.length ≤ 1000000) :
    Calls Tryz.prog 123 #[.slice p zs.length c] w fun e w' => (∃ v, e = .returned v ∧ w'.ownsRow w.heap.size 5 1 v zs.length (u8Cells zs)) ∧ Below w.heap.size w w' := by
  have HBB := Lib.hid h
  cases p with
  | none =>
    have hz : zs = [] := by
      rcases h0 : zs with _ | ⟨z, t⟩
      · rfl
      · obtain ⟨b, o, hh, _⟩ := h.2 (by rw [h0]; exact List.cons_ne_nil _ _)
        cases hh
    subst hz
    clear h HBB
    have e0 := nil_yes c
    go_enter Tryz.func123, Tryz.ntmps123
    go_wp2
    go_ret
    exact ⟨⟨_, rfl, World.ownsRow_nil _ _ _ _⟩, Below.refl _ _⟩
  | some q =>
    clear h
    have e0 := nil_no q zs.length c
    go_enter Tryz.func123, Tryz.ntmps123
    have HOWN0 := Lib.hid (own_blk (base := w.heap.size) (n := 0) (size := 1) (heap_alloc_new w (.cells #[] 5)) (Nat.le_refl _) (by decide) rfl)
    have HA0 := Lib.hid ((Below.refl w.heap.size w).alloc (Nat.le_refl _) (.cells #[] 5))
    have HSRC := Lib.hid (src_bytes HBB.out (fun p x hp => cell_stays HA0.out hp) c)
    obtain ⟨i0, hi0, hzz0, hzz1, hzz2⟩ := info_parts u8_info4
    have I1 := Lib.hid hi0
    have I2 := Lib.hid hzz0
    have I3 := Lib.hid hzz1
    have I4 := Lib.hid hzz2
    clear hi0 hzz0 hzz1 hzz2
    go_wp2_with (at_builtin; refine wpList_append_first _ rfl (.tmp 5) (.tmp 6) 22 22 rfl w.heap.size 5 i0 _ 1 Tryz.underlying22 I1.out I2.out I3.out rfl _ rfl HOWN0.out _ zs.length (u8Cells zs) rfl HSRC.out (by unfold maxLen; omega) (by rw [I4.out]; omega) (by simp) ?_; intro v4 W4 hown4 hg4 hat4; clear hat4; have HO4 := Lib.hid hown4; have HB4 := Lib.hid (HA0.out.grown hg4 (by simp) (fun k hk => (ownsRow_lt HOWN0.out k hk).1)); clear hown4 hg4)
    go_ret
    exact ⟨⟨_, rfl, HO4.out⟩, HB4.out⟩
set_option maxRecDepth 100000 in
set_option maxHeartbeats 4000000 in
theorem vbytes_any (w : World) (x : PV) (val : Value) (hx : IsV w x val) (i : Int) (hl : (kidP x i).bytes.length ≤ 1000000) :
    Calls Tryz.prog 260 #[val, .int .i64 i] w fun e w' => (∃ v, e = .returned v ∧ w'.ownsRow w.heap.size 5 1 v (kidP x i).bytes.length (u8Cells (kidP x i).bytes)) ∧ Below w.heap.size w w' := by
  have HX := Lib.hid hx
  have HL := Lib.hid hl
  obtain ⟨ba, ka, bc, kc, rfl, hn, hby, hbl, hbm, hkl, hkm, hks⟩ := hx.form
  have hb := (Below.refl w.heap.size w).alloc (Nat.le_refl _) (.cells #[.int .u64 x.num, .slice ba x.bytes.length bc, .slice ka x.kids.length kc, .bool x.has] 116)
  have HB := Lib.hid hb
  obtain ⟨_, s0, s1, s2, s3⟩ := blk4p (heap_alloc_new w (.cells #[.int .u64 x.num, .slice ba x.bytes.length bc, .slice ka x.kids.length kc, .bool x.has] 116))
  have HK := Lib.hid (kid_any _ x _ (hx.later hb) i)
  clear hb hby hks hx HX hn hbl hbm hkl hkm hl
  generalize kidP x i = q at *
  go_enter Tryz.func260, Tryz.ntmps260
  go_upto_region 1 with (fail)
  generalize w.alloc (.cells #[.int .u64 x.num, .slice ba x.bytes.length bc, .slice ka x.kids.length kc, .bool x.has] 116) = W0 at *
  go_wp2_with fail
  refine HK.out.mono ?_
  rintro e W1 ⟨⟨kv, rfl, hkv⟩, hb1⟩
  have HB1 := Lib.hid (HB.out.trans (hb1.mono HB.out.size))
  obtain ⟨ba', ka', bc', kc', rfl, _, hby1, _⟩ := hkv.form
  have HC := Lib.hid (bclone_any W1 ba' q.bytes bc' hby1 HL.out)
  clear hb1 hkv s0 s1 s2 s3 HK hby1
  have f0 := fldV
  have f1 := fldA1
  go_wp2_with fail
  refine HC.out.mono ?_
  rintro e W2 ⟨⟨v, rfl, ho⟩, hb2⟩
  have HO := Lib.hid (ownsRow_base ho HB1.out.size)
  have HB2 := Lib.hid (HB1.out.trans (hb2.mono HB1.out.size))
  clear ho hb2 HC
  go_wp2
  go_ret
  exact ⟨⟨_, rfl, HO.out⟩, HB2.out⟩
end Go.Proofs.YtiknhkkeifemcaaGreatDoor
namespace Go.Proofs.YtiknhkkeifemcaaGreatDoor
open Go.ChangeShapes Go.WideShapes Go.ChangeAt Go.RowKit Go.Shelf

set_option maxRecDepth 100000 in
theorem meth_vNum (a b c e : Value) : Meth 2 118 (.agg #[a, b, c, e]) "Num" 262 (.agg #[a, b, c, e]) :=
  ⟨fun N W => by kernel_rfl, enters_of Tryz.func262 (by kernel_rfl) rfl⟩
set_option maxRecDepth 100000 in
theorem meth_vBytes (a b c e : Value) : Meth 2 118 (.agg #[a, b, c, e]) "Bytes" 260 (.agg #[a, b, c, e]) :=
  ⟨fun N W => by kernel_rfl, enters_of Tryz.func260 (by kernel_rfl) rfl⟩
set_option maxRecDepth 100000 in
theorem meth_vList (a b c e : Value) : Meth 2 118 (.agg #[a, b, c, e]) "List" 261 (.agg #[a, b, c, e]) :=
  ⟨fun N W => by kernel_rfl, enters_of Tryz.func261 (by kernel_rfl) rfl⟩
set_option maxRecDepth 100000 in
theorem meth_vSub (r : Value) : Meth 2 118 r "Sub" 264 r :=
  ⟨fun N W => by kernel_rfl, enters_of Tryz.func264 (by kernel_rfl) rfl⟩
set_option maxRecDepth 100000 in
theorem meth_iNum (a b c e : Value) : Meth 1 326 (.agg #[a, b, c, e]) "Num" 262 (.agg #[a, b, c, e]) :=
  ⟨fun N W => by kernel_rfl, enters_of Tryz.func262 (by kernel_rfl) rfl⟩
set_option maxRecDepth 100000 in
theorem meth_iBytes (a b c e : Value) : Meth 1 326 (.agg #[a, b, c, e]) "Bytes" 260 (.agg #[a, b, c, e]) :=
  ⟨fun N W => by kernel_rfl, enters_of Tryz.func260 (by kernel_rfl) rfl⟩
set_option maxRecDepth 100000 in
theorem meth_iList (a b c e : Value) : Meth 1 326 (.agg #[a, b, c, e]) "List" 261 (.agg #[a, b, c, e]) :=
  ⟨fun N W => by kernel_rfl, enters_of Tryz.func261 (by kernel_rfl) rfl⟩
set_option maxRecDepth 100000 in
theorem meth_iSub (r : Value) : Meth 1 326 r "Sub" 282 r :=
  ⟨fun N W => by kernel_rfl, enters_of Tryz.func282 (by kernel_rfl) rfl⟩
set_option maxRecDepth 100000 in
theorem meth_iLen (r : Value) : Meth 1 326 r "Len" 281 r :=
  ⟨fun N W => by kernel_rfl, enters_of Tryz.func281 (by kernel_rfl) rfl⟩
theorem fresh_of {W W' : World} {v : Value} {zs : List Int} (h : W'.ownsRow W.heap.size 5 1 v zs.length (u8Cells zs)) (hz : ∀ i, 0 ≤ zs.getD i 0 ∧ zs.getD i 0 ≤ 255) : ∃ A c, v = .slice A zs.length c ∧ FreshB W W' A c zs := by
  obtain ⟨_, h2⟩ := h
  rcases h2 with ⟨hv, h0⟩ | ⟨g, cap, cur, hv, hb, hg, hn, hm, hs, ht⟩
  · have hl : zs = [] := List.eq_nil_of_length_eq_zero h0
    subst hl
    exact ⟨none, 0, hv, ⟨hz, fun hne => absurd rfl hne⟩, Nat.le_refl _, fun _ => rfl, fun g hg => by simp [rowOf] at hg⟩
  · refine ⟨some ⟨g, 0, none⟩, cap, hv, ⟨hz, fun _ => ⟨g, 0, rfl, blk_lt hg, fun i hi => ?_⟩⟩, hn, fun e => (by cases e), fun g' hg' => ?_⟩
    · rw [Nat.zero_add, blk_cell hg, ← Array.getElem?_toList, ← List.getElem?_take_of_lt (by omega : i < zs.length * 1), ht]
      unfold u8Cells
      rw [List.getElem?_map, List.getElem?_eq_getElem hi, List.getD, List.getElem?_eq_getElem hi]
      rfl
    · have : g' = g := by simp [rowOf] at hg'; omega
      subst this
      exact ⟨hb, blk_lt hg⟩
theorem IsV.bts {w : World} {v : PV} {val : Value} (h : IsV w v val) : ∀ i, 0 ≤ v.bytes.getD i 0 ∧ v.bytes.getD i 0 ≤ 255 := by
  obtain ⟨_, _, _, _, _, _, hb, _⟩ := h.form
  exact hb.1
def NotS (S : Nat → Bool) (j : Nat) : Prop := S j = false
theorem VH.stays {S : Nat → Bool} {w W : World} {v : PV} {val : Value} (h : VH S w v val) (hW : OutD (NotS S) w W) : VH S W v val := h.step hW.size (fun k _ hk => ⟨hk, hW.block k hk⟩)
end Go.Proofs.YtiknhkkeifemcaaGreatDoor
namespace Go.Proofs.YtiknhkkeifemcaaGreatDoor
open Go.ChangeShapes Go.WideShapes Go.ChangeAt Go.RowKit Go.Shelf

theorem fieldsP_atS {f : Nat → Int → Int → PV → Bool} : ∀ {fs : List CFld} {vs : List PV}, fieldsP f fs vs = true → ∀ (j : Nat) (hf : j < fs.length) (hv : j < vs.length), f (fs[j]'hf).kind (fs[j]'hf).ref (fs[j]'hf).lists (vs[j]'hv) = true
  | [], _, _, j, hf, _ => absurd hf (Nat.not_lt_zero j)
  | _ :: _, [], _, j, _, hv => absurd hv (Nat.not_lt_zero j)
  | x :: xs, v :: vs, h, j, hf, hv => by
    unfold fieldsP at h
    rw [Bool.and_eq_true] at h
    cases j with
    | zero => exact h.1
    | succ j => exact fieldsP_atS h.2 j (by simpa using hf) (by simpa using hv)
theorem structP_parts {ss : List CRec} {es : List SCho} {room : Nat} {ref : Int} {ks : List PV} (h : structP ss es room ref ks = true) : (0 ≤ ref ∧ ref < ss.length) ∧ ∃ r, room = r + 1 ∧ ks.length = (recAt ss ref).fields.length ∧ fieldsP (fitsP ss es r) (recAt ss ref).fields ks = true := by
  unfold structP at h
  rw [Bool.and_eq_true, Bool.and_eq_true, Bool.and_eq_true] at h
  obtain ⟨h1, h2, h3, h4⟩ := h
  have h2' : room ≠ 0 := by simpa using h2
  obtain ⟨r, rfl⟩ : ∃ r, room = r + 1 := ⟨room - 1, by omega⟩
  exact ⟨of_decide_eq_true h1, r, rfl, of_decide_eq_true h3, h4⟩
def asI (b : Bool) (val : Value) : Value := if b = true then viewI val else itemsI val
def SeesL (ss : List CRec) (es : List SCho) (room : Nat) : Prop := ∀ (S : Nat → Bool) (n : Nat) (w : World) (v : PV) (val : Value) (k : Nat) (ref lists : Int), (∀ j, S j = false → j < n) → n ≤ w.heap.size → VH S w v val → SmallV v → fitsP ss es room k ref lists v = true → sortP k lists = 3 → ShownD ss room (NotS S) w (itemsI val) k ref lists v
def SeesS (ss : List CRec) (es : List SCho) (room : Nat) : Prop := ∀ (S : Nat → Bool) (n : Nat) (w : World) (v : PV) (val : Value) (k : Nat) (ref lists : Int), (∀ j, S j = false → j < n) → n ≤ w.heap.size → VH S w v val → SmallV v → fitsP ss es room k ref lists v = true → sortP k lists = 4 → v.has = true → ShownD ss room (NotS S) w (viewI val) k ref lists v
theorem ask_of {ss : List CRec} {es : List SCho} {r : Nat} (hL : SeesL ss es r) (hS : SeesS ss es r) (b : Bool) (S : Nat → Bool) (n : Nat) (w : World) (v : PV) (val : Value) (hn : ∀ j, S j = false → j < n) (hw : n ≤ w.heap.size) (hv : VH S w v val) (hsm : SmallV v) (j : Nat) (hj : j < v.kids.length) (k : Nat) (ref lists : Int) (hf : fitsP ss es r k ref lists (v.kids[j]'hj) = true) (hb : b = false → sortP k lists = 4 → (v.kids[j]'hj).has = true) :
    AskD (ShownD ss r) (NotS S) b w (asI b val) j k ref lists (v.kids[j]'hj) := by
  have hk : kidP v (j : Int) = v.kids[j]'hj := kidP_at v j hj
  have hsq : SmallV (v.kids[j]'hj) := hsm.kids.2.2 _ (List.getElem_mem hj)
  obtain ⟨ba, ka, bc, kc, hval, hnum, _, _, _, _, _, hks⟩ := hv.formH
  obtain ⟨_, _, u0, u1, u2, u3, _, _, _, _, _, hkv⟩ := hks j hj
  have hqn : ((v.kids[j]'hj).num : Int) ≤ 18446744073709551615 := by
    obtain ⟨_, _, _, _, _, h2, _⟩ := hkv.formH
    omega
  have hqb := hkv.out.bts
  have hq0 := hsq.kids.1
  rw [← hk] at hf hb hqn hqb hq0 hsq ⊢
  clear hkv hks
  obtain ⟨q, hq⟩ : ∃ q, kidP v (j : Int) = q := ⟨_, rfl⟩
  rw [hq] at hf hb hqn hqb hq0 hsq ⊢
  clear hk
  subst hval
  have hsort := fits_sort hf
  have hD : ∀ (W w' : World), OutD (NotS S) w W → Below W.heap.size W w' → ∀ i, NotS S i → (NotS S i ∨ W.heap.size ≤ i) ∧ i < w'.heap.size := fun W w' hW hb i hi => ⟨.inl hi, by
    have h1 := hn i hi
    have h2 := hW.size
    have h3 := hb.size
    omega⟩
  have hle : ∀ (W w' : World), OutD (NotS S) w W → Below W.heap.size W w' → n ≤ w'.heap.size := fun W w' hW hb => by
    have h2 := hW.size
    have h3 := hb.size
    omega
  cases b with
  | true =>
    refine ⟨?_, fun h1 => ?_, fun h2 => ?_, fun h3 => ?_, fun h4 => ?_⟩
    · rcases hsort with ⟨h, _⟩ | ⟨h, _⟩ | ⟨h, _⟩ | ⟨h, _⟩ <;> omega
    · have hqe : q = numV q.num := by
        rcases hsort with ⟨_, h⟩ | ⟨h, _⟩ | ⟨h, _⟩ | ⟨h, _⟩
        · exact h
        · omega
        · omega
        · omega
      refine ⟨hqe, hqn, _, _, _, _, rfl, meth_vNum _ _ _ _, fun W hW => ?_⟩
      have h := num_any W v _ (hv.stays hW).out (j : Int)
      rw [hq] at h
      exact h
    · have hqe : q = .mk 0 q.bytes [] false := by
        rcases hsort with ⟨h, _⟩ | ⟨_, h⟩ | ⟨h, _⟩ | ⟨h, _⟩
        · omega
        · exact h
        · omega
        · omega
      refine ⟨hqe, by omega, _, _, _, _, rfl, meth_vBytes _ _ _ _, fun W hW => ?_⟩
      have h := vbytes_any W v _ (hv.stays hW).out (j : Int) (by rw [hq]; omega)
      rw [hq] at h
      refine h.mono ?_
      rintro e w' ⟨⟨u, rfl, hu⟩, hb2⟩
      obtain ⟨A, c, rfl, hfr⟩ := fresh_of hu hqb
      exact ⟨⟨A, c, rfl, hfr⟩, hb2⟩
    · refine ⟨_, _, _, _, rfl, meth_vList _ _ _ _, fun W hW => ?_⟩
      have h := vlistof_vh W v _ (hv.stays hW) (j : Int)
      rw [hq] at h
      refine h.mono ?_
      rintro e w' ⟨⟨kv, rfl, hkv⟩, hb2⟩
      exact ⟨⟨_, rfl, NotS S, hD W w' hW hb2, hL S n w' q kv k ref lists hn (hle W w' hW hb2) hkv hsq hf h3⟩, hb2⟩
    · refine ⟨_, _, _, _, rfl, meth_vSub _, fun W hW => ?_⟩
      have h := vsub_vh W v _ (hv.stays hW) (j : Int)
      rw [hq] at h
      refine h.mono ?_
      rintro e w' ⟨⟨kv, rfl, hhas, hkv⟩ | ⟨rfl, hhas⟩, hb2⟩
      · exact ⟨.inl ⟨_, rfl, NotS S, hD W w' hW hb2, hS S n w' q kv k ref lists hn (hle W w' hW hb2) hkv hsq hf h4 hhas⟩, hb2⟩
      · refine ⟨.inr ⟨rfl, rfl, ?_⟩, hb2⟩
        rcases hsort with ⟨h, _⟩ | ⟨h, _⟩ | ⟨h, _⟩ | ⟨_, ⟨_, h⟩ | ⟨h, _⟩⟩
        · omega
        · omega
        · omega
        · exact h
        · rw [hhas] at h
          cases h
  | false =>
    refine ⟨?_, fun h1 => ?_, fun h2 => ?_, fun h3 => ?_, fun h4 => ?_⟩
    · rcases hsort with ⟨h, _⟩ | ⟨h, _⟩ | ⟨h, _⟩ | ⟨h, _⟩ <;> omega
    · have hqe : q = numV q.num := by
        rcases hsort with ⟨_, h⟩ | ⟨h, _⟩ | ⟨h, _⟩ | ⟨h, _⟩
        · exact h
        · omega
        · omega
        · omega
      refine ⟨hqe, hqn, _, _, _, _, rfl, meth_iNum _ _ _ _, fun W hW => ?_⟩
      have h := num_any W v _ (hv.stays hW).out (j : Int)
      rw [hq] at h
      exact h
    · have hqe : q = .mk 0 q.bytes [] false := by
        rcases hsort with ⟨h, _⟩ | ⟨_, h⟩ | ⟨h, _⟩ | ⟨h, _⟩
        · omega
        · exact h
        · omega
        · omega
      refine ⟨hqe, by omega, _, _, _, _, rfl, meth_iBytes _ _ _ _, fun W hW => ?_⟩
      have h := vbytes_any W v _ (hv.stays hW).out (j : Int) (by rw [hq]; omega)
      rw [hq] at h
      refine h.mono ?_
      rintro e w' ⟨⟨u, rfl, hu⟩, hb2⟩
      obtain ⟨A, c, rfl, hfr⟩ := fresh_of hu hqb
      exact ⟨⟨A, c, rfl, hfr⟩, hb2⟩
    · refine ⟨_, _, _, _, rfl, meth_iList _ _ _ _, fun W hW => ?_⟩
      have h := vlistof_vh W v _ (hv.stays hW) (j : Int)
      rw [hq] at h
      refine h.mono ?_
      rintro e w' ⟨⟨kv, rfl, hkv⟩, hb2⟩
      exact ⟨⟨_, rfl, NotS S, hD W w' hW hb2, hL S n w' q kv k ref lists hn (hle W w' hW hb2) hkv hsq hf h3⟩, hb2⟩
    · refine ⟨_, _, _, _, rfl, meth_iSub _, fun W hW => ?_⟩
      have h := velem_vh W v _ (hv.stays hW) (j : Int)
      rw [hq] at h
      refine h.mono ?_
      rintro e w' ⟨⟨kv, rfl, hkv⟩, hb2⟩
      exact ⟨.inl ⟨_, rfl, NotS S, hD W w' hW hb2, hS S n w' q kv k ref lists hn (hle W w' hW hb2) hkv hsq hf h4 (hb rfl h4)⟩, hb2⟩
theorem sees_step {ss : List CRec} {es : List SCho} {room : Nat} (hk : ∀ r, room = r + 1 → SeesL ss es r ∧ SeesS ss es r) : SeesL ss es room ∧ SeesS ss es room := by
  constructor
  · intro S n w v val k ref lists hn hw hv hsm hf hs
    have hsort := fits_sort hf
    obtain ⟨hbare, hall⟩ : (v.num = 0 ∧ v.bytes = [] ∧ v.has = false) ∧ v.kids.all (kidOk ss es room k ref (lists - 1)) = true := by
      rcases hsort with ⟨h, _⟩ | ⟨h, _⟩ | ⟨_, h1, h2⟩ | ⟨h, _⟩
      · omega
      · omega
      · exact ⟨h1, h2⟩
      · omega
    have hhead : ListHeadD (NotS S) w (itemsI val) v := ⟨hbare, by have := hsm.kids.2.1; omega, .inr ⟨_, _, _, _, rfl, meth_iLen _, fun W hW => vlen_any W v val (hv.stays hW).out⟩⟩
    have hok : ∀ q ∈ v.kids, kidOk ss es room k ref (lists - 1) q = true := List.all_eq_true.1 hall
    cases room with
    | zero =>
      refine ⟨hs, hhead, ?_⟩
      cases hks : v.kids with
      | nil => rfl
      | cons q l =>
        obtain ⟨r, hr, _⟩ := kidOk_parts (hok q (by rw [hks]; exact List.mem_cons_self))
        omega
    | succ r =>
      obtain ⟨hL, hS⟩ := hk r rfl
      refine .inl ⟨hs, hhead, fun j hj => ?_⟩
      obtain ⟨r', hr, h4, hfk⟩ := kidOk_parts (hok _ (List.getElem_mem hj))
      obtain rfl : r' = r := by omega
      exact ask_of hL hS false S n w v val hn hw hv hsm j hj k ref (lists - 1) hfk (fun _ => h4)
  · intro S n w v val k ref lists hn hw hv hsm hf hs hhas
    obtain ⟨hnum, hbts, hst⟩ : v.num = 0 ∧ v.bytes = [] ∧ structP ss es room ref v.kids = true := by
      rcases fits_sort hf with ⟨h, _⟩ | ⟨h, _⟩ | ⟨h, _⟩ | ⟨_, ⟨h, _⟩ | ⟨_, h1, h2, h3⟩⟩
      · omega
      · omega
      · omega
      · rw [hhas] at h
        cases h
      · exact ⟨h1, h2, h3⟩
    obtain ⟨href, r, rfl, hlen, hfs⟩ := structP_parts hst
    obtain ⟨hL, hS⟩ := hk r rfl
    refine .inr ⟨hs, ⟨⟨_, _, rfl⟩, ⟨hnum, hbts, hhas⟩, href, hlen⟩, fun j hj hf => ?_⟩
    exact ask_of hL hS true S n w v val hn hw hv hsm j hj _ _ _ (fieldsP_atS hfs j hf hj) (fun h => by cases h)
theorem sees_all (ss : List CRec) (es : List SCho) : ∀ room, SeesL ss es room ∧ SeesS ss es room
  | 0 => sees_step (fun r hr => by omega)
  | room + 1 => sees_step (fun r hr => by
    obtain rfl : r = room := by omega
    exact sees_all ss es r)
end Go.Proofs.YtiknhkkeifemcaaGreatDoor
namespace Go.Proofs.YtiknhkkeifemcaaGreatDoor
open Go.ChangeShapes Go.WideShapes Go.ChangeAt Go.RowKit Go.Shelf
theorem getD_takeX (zs : List Int) (n i : Nat) (hw : ∀ z ∈ zs, (Lit.int .u8 z).wf = true) : 0 ≤ (zs.take n).getD i 0 ∧ (zs.take n).getD i 0 ≤ 255 := by
  rcases Nat.lt_or_ge i (zs.take n).length with h | h
  · rw [List.getD, List.getElem?_eq_getElem h, Option.getD_some]
    exact bounds_u8 (hw _ (List.mem_of_mem_take (List.getElem_mem h)))
  · rw [List.getD, List.getElem?_eq_none h]
    exact ⟨by decide, by decide⟩
theorem bytes_row {w : World} {a : Option Addr} {len cap : Nat} {zs : List Int} (h : IsRow .u8 w a len cap zs) : Bytes w a (zs.take len) ∧ (zs.take len).length = len ∧ len ≤ cap ∧ (cap : Int) ≤ 9223372036854775807 := by
  obtain ⟨h1, h2, h3, h4, h5⟩ := h
  refine ⟨⟨fun i => getD_takeX zs len i h4, fun hne => ?_⟩, by rw [List.length_take]; omega, h1, by unfold maxLen at h2; omega⟩
  have hz : zs ≠ [] := fun e => hne (by rw [e]; exact List.take_nil)
  obtain ⟨b, off, e, hlt, hc⟩ := h5 hz
  refine ⟨b, off, e, hlt, fun i hi => ?_⟩
  rw [List.length_take] at hi
  rw [hc i (by omega), List.getD, List.getD, List.getElem?_take, if_pos (by omega)]
end Go.Proofs.YtiknhkkeifemcaaGreatDoor
