/-
  The package schema's again: the first place whose name an earlier one has, or -1: over tokens, over fields. Conditions: those that each theorem names.
-/
import Derived.Test.YtgbcchiheddfpaaGreatDoorPkL11
import Derived.Test.YtgbcchiheddfpaaGreatDoorPkL22
import Derived.Test.YtgbcchiheddfpaaGreatDoorPkL23
namespace Go.Proofs.YtgbcchiheddfpaaGreatDoor
open Go.ChangeShapes Go.WideShapes Go.ChangeAt Go.RowKit Go.Shelf

def RlAt (w : World) (n : Nat) (sv ev : Value) (root : Int) (outs : Nat → List Nat) (st : List Bool) (i : Value) (W : World) : Prop := ∃ j : Nat, j ≤ n ∧ i = .int .i64 j ∧ BsSt w n sv ev root st W ∧ ∀ k, k < j → ¬ (on st k = true ∧ Way (fun a b => b ∈ outs a) k k)
set_option maxRecDepth 100000 in
set_option maxHeartbeats 8000000 in
theorem rloops_any {w : World} {sv ev : Value} {r : Nat} {ss : List (CRec × Value)} {es : List (SCho × Value)} {base : Nat} (hC : CRows base w ss es sv ev) (hL : LeadOk (ss.map Prod.fst)) (hn : ss.length ≤ 1000000) (hr : r < ss.length) :
    Calls Tryz.prog 21 #[.agg #[sv, ev, .int .i64 r]] w fun e w' => (∃ b, e = .returned (.bool b) ∧ (b = true ↔ Turns (outsC (ss.map Prod.fst)) r)) ∧ Below w.heap.size w w' := by
  obtain ⟨sa, sc, ea, ec, rfl, rfl⟩ := hC.forms
  have hmk := make_bsC ss.length hn
  have hlead : ∀ j (hj : j < ss.length), ∀ f ∈ ss[j].1.fields, f.kind = 13 → 0 ≤ f.ref ∧ f.ref < ss.length := fun j hj f hf hk => by
    have h := hL ss[j].1 (List.mem_map.2 ⟨_, List.getElem_mem hj, rfl⟩) f hf hk
    rwa [List.length_map] at h
  have hout : ∀ j (hj : j < ss.length), outsC (ss.map Prod.fst) j = outsF ss[j].1.fields := fun j hj => by
    unfold outsC
    rw [List.getD, List.getElem?_map, List.getElem?_eq_getElem hj]
    rfl
  have hrd := fun j (hj : j < ss.length) => crow_reads hC j hj
  have hfew : ∀ j (hj : j < ss.length), ss[j].1.fields.length ≤ 9223372036854775807 := fun j hj => row_few (hC.fields _ (List.getElem_mem hj))
  have ho : ∀ i, i < ss.length → ∀ v ∈ outsC (ss.map Prod.fst) i, v < ss.length := fun i _ v hv => by
    have h := outsC_lt hL i v hv
    rwa [List.length_map] at h
  have hret := fun (i : Nat) (hi : i < ss.length) (V : World) (hV : Below w.heap.size w V) => (returns_any (root := r) (hC.below hV) hL hn hi)
  have HRE := Lib.hid hret
  have HO := Lib.hid ho
  have HLE := Lib.hid hlead
  have HOU := Lib.hid hout
  have HRD := Lib.hid hrd
  have HFE := Lib.hid hfew
  clear hC hL hlead hout hrd hfew hret ho
  generalize outsC (ss.map Prod.fst) = outs at *
  go_enter Tryz.func21, Tryz.ntmps21
  go_upto_region 2 with (fail)
  have hst : BsSt w ss.length (.slice sa ss.length sc) (.slice ea es.length ec) r (List.replicate ss.length false) ((w.alloc (Obj.cells #[.slice sa ss.length sc, .slice ea es.length ec, .int .i64 r] 30)).alloc (Obj.cells (bsC (List.replicate ss.length false)) 4)) :=
    ⟨((Below.refl _ _).alloc (Nat.le_refl _) _).alloc (by simp) _, blk_alloc (new_at rfl _) _, new_at (by simp) _, List.length_replicate⟩
  have hr0 : (0 : Int) ≤ r := Int.natCast_nonneg r
  have hr1 : (r : Int) < ss.length := by omega
  have HST := Lib.hid (hst.put r)
  obtain ⟨_, x0, x1, x2, _⟩ := blk3 hst.sch
  have hfz := blk_frozen hst.row r
  have hcv := bs_at hst.row r (by rw [List.length_replicate]; exact hr)
  clear hst hmk
  generalize (w.alloc (Obj.cells #[.slice sa ss.length sc, .slice ea es.length ec, .int .i64 r] 30)).alloc (Obj.cells (bsC (List.replicate ss.length false)) 4) = W00 at *
  go_upto_region 3 with (fail)
  generalize W00.setCell ⟨w.heap.size + 1, r, none⟩ (.bool true) = W0 at *
  clear x0 x1 x2 hfz hcv
  go_wp2_with fail
  go_loopw [4] (fun i wr => BsOut w ss.length (.slice sa ss.length sc) (.slice ea es.length ec) r (fun _ => false) outs ((List.replicate ss.length false).set r true) ss.length i wr) (fun i _ => ss.length - (intOf i).toNat)
  case atStart => exact ⟨0, Nat.zero_le _, rfl, HST.out⟩
  case round =>
    clear HST
    obtain ⟨s, hs, rfl, hst⟩ := hrel
    have HS1 := Lib.hid hst
    obtain ⟨_, x0, x1, x2, _⟩ := blk3 hst.sch
    by_cases hlt : s < ss.length
    · have hsi : (s : Int) < ss.length := by omega
      clear hst
      go_wp2_with fail
      go_loopw [5] (fun i wq => BsIn w ss.length (.slice sa ss.length sc) (.slice ea es.length ec) r (fun _ => false) outs (sweeps (fun _ => false) outs ss.length s ((List.replicate ss.length false).set r true)) i wq) (fun i _ => ss.length - (intOf i).toNat)
      case atStart => exact ⟨0, Nat.zero_le _, rfl, HS1.out⟩
      case round =>
        clear x0 x1 x2
        obtain ⟨j, hj, rfl, hst⟩ := hrel
        have HS2 := Lib.hid hst
        obtain ⟨_, x0, x1, x2, _⟩ := blk3 hst.sch
        by_cases hjl : j < ss.length
        · have hji : (j : Int) < ss.length := by omega
          have hj0 : (0 : Int) ≤ j := Int.natCast_nonneg j
          have hstl := hst.len
          clear hst
          obtain ⟨sg, scc, fa, fc, hsv, hcs, hcf⟩ := HRD.out j hjl
          obtain ⟨rfl, rfl⟩ := slice_inj hsv
          have hle := HLE.out j hjl
          have hou := HOU.out j hjl
          have hfe := HFE.out j hjl
          have HCS := Lib.hid hcs
          have HCF := Lib.hid hcf
          have HLJ := Lib.hid hle
          have HOJ := Lib.hid hou
          clear hsv hcs hcf hle hou
          have HSU := Lib.hid (sweepTo_succ (fun _ => false) outs (sweeps (fun _ => false) outs ss.length s ((List.replicate ss.length false).set r true)) j)
          generalize sweepTo (fun _ => false) outs (sweeps (fun _ => false) outs ss.length s ((List.replicate ss.length false).set r true)) j = st at *
          generalize ss[j].1.fields = fs at *
          go_wp2_with fail
          go_loopw [6] (fun i wv => BsFl w ss.length (.slice (some ⟨sg, 0, none⟩) ss.length sc) (.slice ea es.length ec) r (false || on st j) st fs i wv) (fun i _ => fs.length - (intOf i).toNat)
          case atStart => exact ⟨0, Nat.zero_le _, rfl, by rw [kSt_zero]; exact HS2.out⟩
          case round =>
            clear x0 x1 x2
            obtain ⟨k, hk, rfl, hst⟩ := hrel
            have HS3 := Lib.hid hst
            obtain ⟨_, x0, x1, x2, _⟩ := blk3 hst.sch
            have y0 := HCS.out _ hst.below
            have hlk : (kSt (false || on st j) st fs k).length = ss.length := hst.len
            have z0 := bs_at hst.row j (by omega)
            have hk0 : (0 : Int) ≤ k := Int.natCast_nonneg k
            have hend : (k = fs.length ∨ (false || on st j) = false) → BsIn w ss.length (.slice (some ⟨sg, 0, none⟩) ss.length sc) (.slice ea es.length ec) r (fun _ => false) outs (sweeps (fun _ => false) outs ss.length s ((List.replicate ss.length false).set r true)) (.int .i64 ((j + 1 : Nat) : Int)) wr := fun h => ⟨j + 1, hjl, rfl, by
              rw [HSU.out, ← kSt_end (seed := fun _ => false) HOJ.out h]
              exact HS3.out⟩
            have HEND := Lib.hid hend
            clear hst hend
            by_cases hkl : k < fs.length
            · have hki : (k : Int) < fs.length := by omega
              · by_cases ho : on st j = false
                · have hact : (false || on st j) = false := by rw [ho, Bool.false_or]
                  rw [hact] at z0
                  have z1 : on (kSt false st fs k) j = false := ho
                  rw [z1] at z0
                  have HE := Lib.hid (HEND.out (.inr hact))
                  clear HEND
                  go_wp2
                  go_roundw
                  case rel => exact HE.out
                  case measure => simp [intOf]; omega
                · have ho : on st j = true := by simpa using ho
                  have hact : (false || on st j) = true := by rw [ho, Bool.false_or]
                  rw [kSt_on _ ho] at z0
                  clear ho
                  obtain ⟨fg, rfl, hcell⟩ := HCF.out k hkl
                  obtain ⟨c1, c2, c3⟩ := hcell wr HS3.out.below
                  have HLF := Lib.hid (HLJ.out fs[k] (List.getElem_mem hkl))
                  have hky := fun h => kSt_yes (st := st) hkl h
                  have hkn := fun h => kSt_no (act := true) (st := st) hkl h
                  have HKY := Lib.hid hky
                  have HKN := Lib.hid hkn
                  clear hky hkn hcell
                  generalize fs[k] = f at *
                  obtain ⟨nm, kd, rf, li, df⟩ := f
                  simp only at c1 c2 c3 HLF HKY HKN
                  have hb2 : Below wr.heap.size wr (wr.alloc (.cells #[.int .u8 kd, .int .i64 rf, .int .i64 li] 62)) := (Below.refl _ _).alloc (Nat.le_refl _) _
                  have hq := heap_alloc_new wr (.cells #[.int .u8 kd, .int .i64 rf, .int .i64 li] 62)
                  have HS4 := Lib.hid (HS3.out.later hb2)
                  have HQ := Lib.hid hq
                  clear hb2 hq
                  go_upto_region 13 with (fail)
                  generalize wr.alloc (.cells #[.int .u8 kd, .int .i64 rf, .int .i64 li] 62) = W2 at *
                  clear c1 c2 c3 x0 x1 x2 y0 z0
                  obtain ⟨_, b0, b1, b2, _⟩ := blk3 HQ.out
                  by_cases hk13 : kd = 13
                  · subst hk13
                    obtain ⟨hle1, hle2⟩ := HLF.out rfl
                    obtain ⟨v, rfl⟩ := Int.eq_ofNat_of_zero_le hle1
                    have hvn : v < ss.length := by omega
                    have hfz := blk_frozen HS4.out.row v
                    have hcv := bs_at HS4.out.row v (by rw [kSt_length]; omega)
                    have HEN := Lib.hid (show BsFl w ss.length (.slice (some ⟨sg, 0, none⟩) ss.length sc) (.slice ea es.length ec) r (false || on st j) st fs (.int .i64 ((k + 1 : Nat) : Int)) (W2.setCell ⟨w.heap.size + 1, v, none⟩ (.bool true)) from ⟨k + 1, hkl, rfl, by
                      have h := HS4.out.put v
                      rw [hact] at h ⊢
                      rw [HKY.out rfl, Int.toNat_natCast]
                      exact h⟩)
                    clear HS4 HEND
                    go_wp2
                    go_roundw
                    case rel => exact HEN.out
                    case measure => simp [intOf]; omega
                  · have hkk : ((kd : Int) == 13) = false := by simp; omega
                    have HEN := Lib.hid (show BsFl w ss.length (.slice (some ⟨sg, 0, none⟩) ss.length sc) (.slice ea es.length ec) r (false || on st j) st fs (.int .i64 ((k + 1 : Nat) : Int)) W2 from ⟨k + 1, hkl, rfl, by
                      have h := HS4.out
                      rw [hact] at h ⊢
                      rw [HKN.out hk13]
                      exact h⟩)
                    clear HS4 HEND
                    go_wp2
                    go_roundw
                    case rel => exact HEN.out
                    case measure => simp [intOf]; omega
            · have hki : ¬ (k : Int) < fs.length := by omega
              go_wp2
              go_roundw
              case rel => exact HEND.out (.inl (by omega))
              case measure => simp [intOf]; omega
        · have hji : ¬ (j : Int) < ss.length := by omega
          have HEN := Lib.hid (show BsOut w ss.length (.slice sa ss.length sc) (.slice ea es.length ec) r (fun _ => false) outs ((List.replicate ss.length false).set r true) ss.length (.int .i64 ((s + 1 : Nat) : Int)) wr from ⟨s + 1, by omega, rfl, by
            have h := HS2.out
            obtain rfl : j = ss.length := by omega
            exact h⟩)
          clear hst
          go_wp2
          go_roundw
          case rel => exact HEN.out
          case measure => simp [intOf]; omega
    · obtain rfl : s = ss.length := by omega
      have hsi : ¬ ((ss.length : Nat) : Int) < ss.length := by omega
      have HRI := Lib.hid (fun v => reach_is (outs := outs) hr HO.out v)
      clear hst
      generalize sweeps (fun _ => false) outs ss.length ss.length ((List.replicate ss.length false).set r true) = R at *
      go_wp2_with fail
      go_loopw [8] (fun i wq => RlAt w ss.length (.slice sa ss.length sc) (.slice ea es.length ec) r outs R i wq) (fun i _ => ss.length - (intOf i).toNat)
      case atStart => exact ⟨0, Nat.zero_le _, rfl, HS1.out, fun k hk => absurd hk (Nat.not_lt_zero k)⟩
      case round =>
        clear x0 x1 x2 HS1
        obtain ⟨j, hj, rfl, hst, hno⟩ := hrel
        have HS2 := Lib.hid hst
        have HNO := Lib.hid hno
        obtain ⟨_, x0, x1, x2, _⟩ := blk3 hst.sch
        by_cases hjl : j < ss.length
        · have hji : (j : Int) < ss.length := by omega
          have hj0 : (0 : Int) ≤ j := Int.natCast_nonneg j
          have z0 := bs_at hst.row j (by rw [hst.len]; exact hjl)
          have HBI := Lib.hid (behind_is hjl HO.out j)
          clear hst hno
          by_cases hon : on R j = true
          · rw [hon] at z0
            have HRT := Lib.hid (HRE.out j hjl wr HS2.out.below)
            go_wp2_with fail
            refine HRT.out.mono ?_
            rintro e W2 ⟨rfl, hb2⟩
            have HS3 := Lib.hid (HS2.out.later hb2)
            clear hb2 x0 x1 x2 z0 HRT
            by_cases hw : on (sweeps (fun i => decide (i = j)) outs ss.length (ss.length + 1) (List.replicate ss.length false)) j = true
            · rw [hw]
              have HT := Lib.hid (show Turns outs r from ⟨j, (HRI.out j).1 hon, HBI.out.1 hw⟩)
              go_wp2
              go_ret
              exact ⟨⟨true, rfl, by simp [HT.out]⟩, HS3.out.below⟩
            · have hw2 : on (sweeps (fun i => decide (i = j)) outs ss.length (ss.length + 1) (List.replicate ss.length false)) j = false := by simpa using hw
              have HEN := Lib.hid (show RlAt w ss.length (.slice sa ss.length sc) (.slice ea es.length ec) r outs R (.int .i64 ((j + 1 : Nat) : Int)) W2 from ⟨j + 1, hjl, rfl, HS3.out, fun k hk => by
                rcases Nat.lt_or_ge k j with h | h
                · exact HNO.out k h
                · obtain rfl : k = j := by omega
                  exact fun h2 => hw (HBI.out.2 h2.2)⟩)
              rw [hw2]
              clear hw hw2
              go_wp2
              go_roundw
              case rel => exact HEN.out
              case measure => simp [intOf]; omega
          · have hon2 : on R j = false := by simpa using hon
            rw [hon2] at z0
            have HEN := Lib.hid (show RlAt w ss.length (.slice sa ss.length sc) (.slice ea es.length ec) r outs R (.int .i64 ((j + 1 : Nat) : Int)) wr from ⟨j + 1, hjl, rfl, HS2.out, fun k hk => by
              rcases Nat.lt_or_ge k j with h | h
              · exact HNO.out k h
              · obtain rfl : k = j := by omega
                exact fun h2 => hon h2.1⟩)
            clear hon hon2
            go_wp2
            go_roundw
            case rel => exact HEN.out
            case measure => simp [intOf]; omega
        · have hji : ¬ (j : Int) < ss.length := by omega
          have HT := Lib.hid (show ¬ Turns outs r from by
            rintro ⟨k, hk, hc⟩
            have hkR := (HRI.out k).2 hk
            have hkn : k < ss.length := by
              have hlt : ∀ a b, Way (fun a b => b ∈ outs a) a b → a < ss.length → b < ss.length := by
                intro a b h
                induction h with
                | one h => exact fun ha => HO.out _ ha _ h
                | more h _ ih => exact fun ha => ih (HO.out _ ha _ h)
              rcases hk with rfl | h
              · exact hr
              · exact hlt _ _ h hr
            exact hno k (by omega) ⟨hkR, hc⟩)
          clear hst hno
          go_wp2
          go_ret
          exact ⟨.inl ⟨rfl, HT.out⟩, HS2.out.below⟩
end Go.Proofs.YtgbcchiheddfpaaGreatDoor
namespace Go.Proofs.YtgbcchiheddfpaaGreatDoor
open Go.ChangeShapes Go.WideShapes Go.ChangeAt Go.RowKit Go.Shelf

def MapKeys (W : World) (b : Nat) (ks : List ByteArray) : Prop := ∃ l, MapAt W b l ∧ l.map Prod.fst = ks
theorem look_has : ∀ (l : List (ByteArray × Value)) (s : ByteArray), (lookK l s).isSome = hasS (l.map Prod.fst) s
  | [], _ => rfl
  | p :: r, s => by
    rw [List.map_cons]
    show (lookK (p :: r) s).isSome = (decide (s = p.1) || hasS (r.map Prod.fst) s)
    rw [lookK]
    split
    · rename_i h
      rw [decide_eq_true h]
      rfl
    · rename_i h
      rw [decide_eq_false h, Bool.false_or]
      exact look_has r s
theorem MapKeys.lt {W : World} {b : Nat} {ks : List ByteArray} (h : MapKeys W b ks) : b < W.heap.size := h.choose_spec.1.lt
theorem MapKeys.below {W W' : World} {b B : Nat} {ks : List ByteArray} (h : MapKeys W b ks) (hb : Below B W W') (hlt : b < B) : MapKeys W' b ks := by
  obtain ⟨l, h1, h2⟩ := h
  exact ⟨l, h1.below hb hlt, h2⟩
theorem MapKeys.look {W : World} {b : Nat} {ks : List ByteArray} (h : MapKeys W b ks) (s : ByteArray) {c : Bool} (hc : hasS ks s = c) :
    ∃ v, (Instr.lookup 343 (.map (some b)) (.string s) true).run Tryz.prog W = .ok (.tuple #[v, .bool c]) W := by
  obtain ⟨l, h1, rfl⟩ := h
  refine ⟨(lookK l s).getD (.int .i64 0), ?_⟩
  have := h1.look ty_key int_map (int_zero W) s true
  rw [if_pos rfl, look_has, hc] at this
  exact this
theorem MapKeys.store {W : World} {b : Nat} {ks : List ByteArray} (h : MapKeys W b ks) (s : ByteArray) (v : Value) (hc : hasS ks s = false) :
    ∃ W', (Instr.mapUpdate 343 (.map (some b)) (.string s) v).run Tryz.prog W = .ok () W' ∧ MapKeys W' b (ks ++ [s]) ∧ ∀ B, Exc b B W W' := by
  obtain ⟨l, h1, rfl⟩ := h
  have hn : lookK l s = none := by
    have := look_has l s
    rw [hc] at this
    exact Option.not_isSome_iff_eq_none.1 (by rw [this]; decide)
  obtain ⟨W', r1, r2, r3⟩ := h1.store ty_key int_map s v hn
  exact ⟨W', r1, ⟨_, r2, by simp⟩, r3⟩
theorem MapKeys.made (W : World) : MapKeys (W.alloc (.map #[] 0)) W.heap.size [] := ⟨[], .made W, rfl⟩
def dupI : Option Nat → Int
  | none => -1
  | some k => (k : Nat)
theorem dup_step {α : Type} (f : α → ByteArray) (l : List α) (k : Nat) (hk : k < l.length) (h : dup (l.map f) = dupFrom ((l.take k).map f) ((l.drop k).map f)) :
    (hasS ((l.take k).map f) (f l[k]) = true → dup (l.map f) = some k) ∧ (hasS ((l.take k).map f) (f l[k]) = false → dup (l.map f) = dupFrom ((l.take (k + 1)).map f) ((l.drop (k + 1)).map f)) := by
  rw [List.drop_eq_getElem_cons hk, List.map_cons] at h
  constructor
  · intro hc
    rw [h]
    show (if hasS _ _ = true then some _ else _) = _
    rw [if_pos hc, List.length_map, List.length_take, Nat.min_eq_left (Nat.le_of_lt hk)]
  · intro hc
    rw [h]
    show (if hasS _ _ = true then some _ else dupFrom _ _) = _
    rw [if_neg (by rw [hc]; decide), List.take_succ_eq_append_getElem hk, List.map_append]
    rfl
theorem take_snoc_map {α : Type} (f : α → ByteArray) (l : List α) (k : Nat) (hk : k < l.length) : (l.take (k + 1)).map f = (l.take k).map f ++ [f l[k]] := by
  rw [List.take_succ_eq_append_getElem hk, List.map_append]
  rfl
def AgainAt {α : Type} (f : α → ByteArray) (l : List α) (w : World) (i : Value) (wr : World) : Prop :=
  ∃ k : Nat, k ≤ l.length ∧ i = .int .i64 k ∧ MapKeys wr w.heap.size ((l.take k).map f) ∧ Below w.heap.size w wr ∧ dup (l.map f) = dupFrom ((l.take k).map f) ((l.drop k).map f)

theorem name_tok (a c : Int) (s : ByteArray) (w : World) : Calls Tryz.prog 162 #[.agg #[.int .i64 a, .string s, .int .i64 c]] w fun e w' => e = .returned (.string s) ∧ Below w.heap.size w w' := by
  go_enter Tryz.func162, Tryz.ntmps162
  go_wp2
  go_ret
  exact ⟨rfl, (Below.refl _ _).alloc (Nat.le_refl _) _⟩
set_option maxRecDepth 100000 in
set_option maxHeartbeats 2000000 in
theorem again_tok (l : List Tok) (v : Value) (base : Nat) (w : World) (h : w.ownsRow base 282 3 v l.length (toksCells l)) :
    Calls Tryz.prog 161 #[v, .func (.func 162) #[] #[]] w fun e w' => e = .returned (.int .i64 (dupI (dup (l.map tokT)))) ∧ Below w.heap.size w w' := by
  obtain ⟨a, c, rfl⟩ := ownsRow_form h
  have hfew := row_few h
  have HR := Lib.hid h
  clear h
  have hmm := @run_makeMap Tryz.prog
  have HMK := Lib.hid (MapKeys.made w)
  have HBK := Lib.hid (show Below w.heap.size w (w.alloc (.map #[] 0)) from (Below.refl _ _).alloc (Nat.le_refl _) _)
  go_enter Tryz.func161, Tryz.ntmps161
  go_wp2
  clear hmm
  go_loopw [13] (AgainAt tokT l w) (fun i _ => l.length - (intOf i).toNat)
  case atStart => exact ⟨0, Nat.zero_le _, rfl, HMK.out, HBK.out, rfl⟩
  case round =>
    clear HMK HBK
    obtain ⟨k, hk, rfl, hm, hb, hd⟩ := hrel
    by_cases hkl : k < l.length
    · obtain ⟨g, cc, hv, hcc, hg, hcell⟩ := row_el tokCells 3 (fun _ => rfl) (row_keep hb HR.out) k hkl
      obtain ⟨rfl, rfl⟩ := slice_inj hv
      have x0 : wr.cell? ⟨g, k * 3, none⟩ = some (.int .i64 l[k].kind) := hcell 0 (by omega)
      have x1 : wr.cell? ⟨g, k * 3 + 1, none⟩ = some (.string (tokT l[k])) := hcell 1 (by omega)
      have x2 : wr.cell? ⟨g, k * 3 + 2, none⟩ = some (.int .i64 l[k].place) := hcell 2 (by omega)
      obtain ⟨d1, d2⟩ := dup_step tokT l k hkl hd
      have HTK := Lib.hid (take_snoc_map tokT l k hkl)
      generalize l[k] = q at *
      have hwr := hm.lt
      have HM := Lib.hid hm
      have HB := Lib.hid hb
      have HD1 := Lib.hid d1
      have HD2 := Lib.hid d2
      clear hm hb hd d1 d2 hcell hv
      go_wp2_with fail
      refine (name_tok _ _ _ _).mono ?_
      rintro e W1 ⟨rfl, hb1⟩
      have hbx : Below wr.heap.size wr W1 := ((Below.refl _ _).alloc (Nat.le_refl _) _).trans (hb1.mono (by simp))
      have HM1 := Lib.hid (HM.out.below hbx hwr)
      have HB1 := Lib.hid (HB.out.trans (hbx.mono (by omega)))
      have hlt1 : wr.heap.size < W1.heap.size := by have := hb1.size; simp at this; omega
      have HN := Lib.hid (blk_below (heap_alloc_new wr _) hb1 (by simp))
      clear hbx hb1 HM HB
      cases hh : hasS ((l.take k).map tokT) (tokT q)
      · obtain ⟨v, hl⟩ := HM1.out.look _ hh
        have HD := Lib.hid (HD2.out hh)
        have HH := Lib.hid hh
        clear hh HD1 HD2
        have y0 : W1.cell? ⟨wr.heap.size, 0, none⟩ = some (.int .i64 q.kind) := (blk_cell HN.out 0).trans rfl
        have y1 : W1.cell? ⟨wr.heap.size, 1, none⟩ = some (.string (tokT q)) := (blk_cell HN.out 1).trans rfl
        have y2 : W1.cell? ⟨wr.heap.size, 2, none⟩ = some (.int .i64 q.place) := (blk_cell HN.out 2).trans rfl
        go_upto_region 8 with (fail)
        clear hl
        go_wp2_with fail
        refine (name_tok _ _ _ _).mono ?_
        rintro e W2 ⟨rfl, hb2⟩
        have hms := HM1.out.below hb2 (by omega)
        have HB2 := Lib.hid (HB1.out.trans (hb2.mono (by omega)))
        have hlt2 := hb2.size
        obtain ⟨W3, hr3, hm3, hx3⟩ := hms.store (tokT q) (.int .i64 k) HH.out
        have HM3 := Lib.hid hm3
        have HB3 := Lib.hid (HB2.out.trans ((hx3 _).below (Nat.le_refl w.heap.size)))
        clear hms hb2 hm3 hx3 HB1 HB2
        go_wp2
        go_roundw
        case rel => exact ⟨k + 1, by omega, by go_num, by rw [HTK.out]; exact HM3.out, HB3.out, HD.out⟩
        case measure => simp [intOf]; omega
      · obtain ⟨v, hl⟩ := HM1.out.look _ hh
        have HD := Lib.hid (HD1.out hh)
        clear hh HD1 HD2
        go_wp2
        go_ret
        exact ⟨by rw [HD.out]; rfl, HB1.out⟩
    · obtain rfl : k = l.length := by omega
      have HD : Hid (dup (l.map tokT) = none) := Lib.hid (by rw [hd, List.drop_length]; rfl)
      have HB := Lib.hid hb
      clear hm hb hd
      go_wp2
      go_ret
      exact ⟨by rw [HD.out]; rfl, HB.out⟩

theorem name_fld (x1 x3 x4 x5 x7 : Int) (s x2 x6 : ByteArray) (w : World) : Calls Tryz.prog 165 #[.agg #[.string s, .int .i64 x1, .string x2, .int .i64 x3, .int .i64 x4, .int .i64 x5, .string x6, .int .i64 x7]] w fun e w' => e = .returned (.string s) ∧ Below w.heap.size w w' := by
  go_enter Tryz.func165, Tryz.ntmps165
  go_wp2
  go_ret
  exact ⟨rfl, (Below.refl _ _).alloc (Nat.le_refl _) _⟩
set_option maxRecDepth 100000 in
set_option maxHeartbeats 2000000 in
theorem again_fld (l : List RField) (v : Value) (base : Nat) (w : World) (h : w.ownsRow base 303 8 v l.length (fieldsCells l)) :
    Calls Tryz.prog 164 #[v, .func (.func 165) #[] #[]] w fun e w' => e = .returned (.int .i64 (dupI (dup (l.map fldT)))) ∧ Below w.heap.size w w' := by
  obtain ⟨a, c, rfl⟩ := ownsRow_form h
  have hfew := row_few h
  have HR := Lib.hid h
  clear h
  have hmm := @run_makeMap Tryz.prog
  have HMK := Lib.hid (MapKeys.made w)
  have HBK := Lib.hid (show Below w.heap.size w (w.alloc (.map #[] 0)) from (Below.refl _ _).alloc (Nat.le_refl _) _)
  go_enter Tryz.func164, Tryz.ntmps164
  go_wp2
  clear hmm
  go_loopw [13] (AgainAt fldT l w) (fun i _ => l.length - (intOf i).toNat)
  case atStart => exact ⟨0, Nat.zero_le _, rfl, HMK.out, HBK.out, rfl⟩
  case round =>
    clear HMK HBK
    obtain ⟨k, hk, rfl, hm, hb, hd⟩ := hrel
    by_cases hkl : k < l.length
    · obtain ⟨g, cc, hv, hcc, hg, hcell⟩ := row_el fieldCells 8 (fun _ => rfl) (row_keep hb HR.out) k hkl
      obtain ⟨rfl, rfl⟩ := slice_inj hv
      have x0 : wr.cell? ⟨g, k * 8, none⟩ = some (.string (fldT l[k])) := hcell 0 (by omega)
      have x1 : wr.cell? ⟨g, k * 8 + 1, none⟩ = some (.int .i64 l[k].place) := hcell 1 (by omega)
      have x2 : wr.cell? ⟨g, k * 8 + 2, none⟩ = some (.string (strOfNums l[k].ty.name)) := hcell 2 (by omega)
      have x3 : wr.cell? ⟨g, k * 8 + 3, none⟩ = some (.int .i64 l[k].ty.lists) := hcell 3 (by omega)
      have x4 : wr.cell? ⟨g, k * 8 + 4, none⟩ = some (.int .i64 l[k].ty.place) := hcell 4 (by omega)
      have x5 : wr.cell? ⟨g, k * 8 + 5, none⟩ = some (.int .i64 l[k].dflt.kind) := hcell 5 (by omega)
      have x6 : wr.cell? ⟨g, k * 8 + 6, none⟩ = some (.string (strOfNums l[k].dflt.text)) := hcell 6 (by omega)
      have x7 : wr.cell? ⟨g, k * 8 + 7, none⟩ = some (.int .i64 l[k].dflt.place) := hcell 7 (by omega)
      obtain ⟨d1, d2⟩ := dup_step fldT l k hkl hd
      have HTK := Lib.hid (take_snoc_map fldT l k hkl)
      generalize l[k] = q at *
      have hwr := hm.lt
      have HM := Lib.hid hm
      have HB := Lib.hid hb
      have HD1 := Lib.hid d1
      have HD2 := Lib.hid d2
      clear hm hb hd d1 d2 hcell hv
      go_wp2_with fail
      refine (name_fld _ _ _ _ _ _ _ _ _).mono ?_
      rintro e W1 ⟨rfl, hb1⟩
      have hbx : Below wr.heap.size wr W1 := ((Below.refl _ _).alloc (Nat.le_refl _) _).trans (hb1.mono (by simp))
      have HM1 := Lib.hid (HM.out.below hbx hwr)
      have HB1 := Lib.hid (HB.out.trans (hbx.mono (by omega)))
      have hlt1 : wr.heap.size < W1.heap.size := by have := hb1.size; simp at this; omega
      have HN := Lib.hid (blk_below (heap_alloc_new wr _) hb1 (by simp))
      clear hbx hb1 HM HB
      cases hh : hasS ((l.take k).map fldT) (fldT q)
      · obtain ⟨v, hl⟩ := HM1.out.look _ hh
        have HD := Lib.hid (HD2.out hh)
        have HH := Lib.hid hh
        clear hh HD1 HD2
        have y0 : W1.cell? ⟨wr.heap.size, 0, none⟩ = some (.string (fldT q)) := (blk_cell HN.out 0).trans rfl
        have y1 : W1.cell? ⟨wr.heap.size, 1, none⟩ = some (.int .i64 q.place) := (blk_cell HN.out 1).trans rfl
        have y2 : W1.cell? ⟨wr.heap.size, 2, none⟩ = some (.string (strOfNums q.ty.name)) := (blk_cell HN.out 2).trans rfl
        have y3 : W1.cell? ⟨wr.heap.size, 3, none⟩ = some (.int .i64 q.ty.lists) := (blk_cell HN.out 3).trans rfl
        have y4 : W1.cell? ⟨wr.heap.size, 4, none⟩ = some (.int .i64 q.ty.place) := (blk_cell HN.out 4).trans rfl
        have y5 : W1.cell? ⟨wr.heap.size, 5, none⟩ = some (.int .i64 q.dflt.kind) := (blk_cell HN.out 5).trans rfl
        have y6 : W1.cell? ⟨wr.heap.size, 6, none⟩ = some (.string (strOfNums q.dflt.text)) := (blk_cell HN.out 6).trans rfl
        have y7 : W1.cell? ⟨wr.heap.size, 7, none⟩ = some (.int .i64 q.dflt.place) := (blk_cell HN.out 7).trans rfl
        go_upto_region 8 with (fail)
        clear hl
        go_wp2_with fail
        refine (name_fld _ _ _ _ _ _ _ _ _).mono ?_
        rintro e W2 ⟨rfl, hb2⟩
        have hms := HM1.out.below hb2 (by omega)
        have HB2 := Lib.hid (HB1.out.trans (hb2.mono (by omega)))
        have hlt2 := hb2.size
        obtain ⟨W3, hr3, hm3, hx3⟩ := hms.store (fldT q) (.int .i64 k) HH.out
        have HM3 := Lib.hid hm3
        have HB3 := Lib.hid (HB2.out.trans ((hx3 _).below (Nat.le_refl w.heap.size)))
        clear hms hb2 hm3 hx3 HB1 HB2
        go_wp2
        go_roundw
        case rel => exact ⟨k + 1, by omega, by go_num, by rw [HTK.out]; exact HM3.out, HB3.out, HD.out⟩
        case measure => simp [intOf]; omega
      · obtain ⟨v, hl⟩ := HM1.out.look _ hh
        have HD := Lib.hid (HD1.out hh)
        clear hh HD1 HD2
        go_wp2
        go_ret
        exact ⟨by rw [HD.out]; rfl, HB1.out⟩
    · obtain rfl : k = l.length := by omega
      have HD : Hid (dup (l.map fldT) = none) := Lib.hid (by rw [hd, List.drop_length]; rfl)
      have HB := Lib.hid hb
      clear hm hb hd
      go_wp2
      go_ret
      exact ⟨by rw [HD.out]; rfl, HB.out⟩
end Go.Proofs.YtgbcchiheddfpaaGreatDoor
