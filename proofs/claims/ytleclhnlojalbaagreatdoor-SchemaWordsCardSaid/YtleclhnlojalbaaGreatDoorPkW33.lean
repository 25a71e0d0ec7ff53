/-
  Contracts of Go's library, laid at this translation: no walk, one application each. Conditions: those that each theorem names.
-/
import Derived.Test.YtleclhnlojalbaaGreatDoorPkW12
import Derived.Test.YtleclhnlojalbaaGreatDoorPkW30
import Derived.Laws.BytesArg
import Derived.Test.YtleclhnlojalbaaGreatDoorRows
import Derived.Shelf.Bytes.SlSmallAll
namespace Go.Proofs.YtleclhnlojalbaaGreatDoor
open Go.ChangeShapes Go.WideShapes Go.ChangeAt Go.RowKit Go.Shelf

theorem kind_ne {k : Int} {s : List Int} {r : List Tok} (h : isT k s r = true) (hk : k ≠ 0) : (hd r).kind ≠ 0 := by
  rw [(isT_kind h).1]
  exact hk
theorem sch_end {a : RRaw} {r : List Tok} (he : Ends r) (h : (hd r).kind = 0) : (Sto.go r).rd (schemaL a) = (Sto.go r).rd (fun r => .ok a r) := by
  show schemaL a r = .ok a r
  rw [schemaL_step he, if_pos h]
theorem sch_struct {a : RRaw} {r : List Tok} {s : RRec} (he : Ends r) (h : isT 1 wStruct r = true) (hg : Got (.go r.tail) recR s) : (Sto.go r).rd (schemaL a) = ((Sto.go r.tail).step recR).rd (schemaL ⟨a.structs ++ [s], a.enums, a.roots⟩) := by
  have e : schemaL a r = (recR r.tail).bind fun s r' => schemaL ⟨a.structs ++ [s], a.enums, a.roots⟩ r' := by
    rw [schemaL_step he, if_neg (kind_ne h (by decide))]
    unfold partR
    rw [if_pos h]
    cases recR r.tail <;> rfl
  exact e.trans (got_rd (k := fun (s : RRec) (r' : List Tok) => schemaL ⟨a.structs ++ [s], a.enums, a.roots⟩ r') hg)
theorem sch_enum {a : RRaw} {r : List Tok} {s : RCho} (he : Ends r) (h0 : isT 1 wStruct r = false) (h : isT 1 wEnum r = true) (hg : Got (.go r.tail) choR s) : (Sto.go r).rd (schemaL a) = ((Sto.go r.tail).step choR).rd (schemaL ⟨a.structs, a.enums ++ [s], a.roots⟩) := by
  have e : schemaL a r = (choR r.tail).bind fun s r' => schemaL ⟨a.structs, a.enums ++ [s], a.roots⟩ r' := by
    rw [schemaL_step he, if_neg (kind_ne h (by decide))]
    unfold partR
    rw [if_neg (by rw [h0]; decide), if_pos h]
    cases choR r.tail <;> rfl
  exact e.trans (got_rd (k := fun (s : RCho) (r' : List Tok) => schemaL ⟨a.structs, a.enums ++ [s], a.roots⟩ r') hg)
theorem sch_root {a : RRaw} {r : List Tok} {t : Tok} (he : Ends r) (h0 : isT 1 wStruct r = false) (h1 : isT 1 wEnum r = false) (h : isT 1 wRoot r = true) (hg : Got (.go r.tail) nameR t) :
    (Sto.go r).rd (schemaL a) = (((Sto.go r.tail).step nameR).step (wantR [59])).rd (schemaL ⟨a.structs, a.enums, a.roots ++ [t]⟩) := by
  have e : schemaL a r = (nameR r.tail).bind fun t r1 => (wantR [59] r1).bind fun _ r' => schemaL ⟨a.structs, a.enums, a.roots ++ [t]⟩ r' := by
    rw [schemaL_step he, if_neg (kind_ne h (by decide))]
    unfold partR
    rw [if_neg (by rw [h0]; decide), if_neg (by rw [h1]; decide), if_pos h]
    cases nameR r.tail with
    | no c p => rfl
    | ok t r1 =>
      simp only [bind_ok]
      cases wantR [59] r1 <;> rfl
  refine e.trans ((got_rd (k := fun (t : Tok) (r1 : List Tok) => (wantR [59] r1).bind fun _ r' => schemaL ⟨a.structs, a.enums, a.roots ++ [t]⟩ r') hg).trans ?_)
  exact got_rd (k := fun (_ : Unit) (r' : List Tok) => schemaL ⟨a.structs, a.enums, a.roots ++ [t]⟩ r') got_unit
theorem sch_bad {a : RRaw} {r : List Tok} (he : Ends r) (hk : (hd r).kind ≠ 0) (h0 : isT 1 wStruct r = false) (h1 : isT 1 wEnum r = false) (h2 : isT 1 wRoot r = false) :
    (Sto.go r).rd (schemaL a) = (badS 11 (.go r)).rd (schemaL a) := by
  show schemaL a r = .no 11 (hd r).place
  rw [schemaL_step he, if_neg hk]
  unfold partR
  rw [if_neg (by rw [h0]; decide), if_neg (by rw [h1]; decide), if_neg (by rw [h2]; decide)]
  rfl
end Go.Proofs.YtleclhnlojalbaaGreatDoor
namespace Go.Proofs.YtleclhnlojalbaaGreatDoor
open Go.ChangeShapes Go.WideShapes Go.ChangeAt Go.RowKit Go.Shelf

def okU (zs : List Int) : Bool := decide (u8At zs 0 < 0)
def quoVal (zs : List Int) (i : Nat) : Value := if quoBad okU zs i = true then .tuple #[.int .i64 0, .bool false] else .tuple #[.int .i64 (quoEnd zs i + 1 : Nat), .bool true]
theorem quoVal_eq (zs : List Int) (i : Nat) : quoVal zs i = if quoBad okU zs i = true then .tuple #[.int .i64 0, .bool false] else .tuple #[.int .i64 (quoEnd zs i + 1 : Nat), .bool true] := rfl
theorem sub_length (zs : List Int) (i j : Nat) (_h : i ≤ j) (h2 : j ≤ zs.length) : (sub zs i j).length = j - i := by
  unfold sub
  rw [List.length_take, List.length_drop]
  omega
theorem sub_get (zs : List Int) (i j k : Nat) (h : k < j - i) : (sub zs i j).getD k 0 = zs.getD (i + k) 0 := by
  unfold sub
  simp [List.getD, h]
theorem sub_bd {zs : List Int} (h : ∀ i, 0 ≤ zs.getD i 0 ∧ zs.getD i 0 ≤ 255) (i j : Nat) : ∀ k, 0 ≤ (sub zs i j).getD k 0 ∧ (sub zs i j).getD k 0 ≤ 255 := by
  intro k
  by_cases hk : k < j - i
  · rw [sub_get zs i j k hk]
    exact h _
  · have : (sub zs i j).getD k 0 = 0 := by
      unfold sub
      rw [List.getD, List.getElem?_eq_none (by rw [List.length_take]; omega)]
      rfl
    rw [this]
    omega
theorem sub_utf8 (b off c n i j m : Nat) (zs : List Int) (w : World) (hT : Tabs w) (hz : Bytes w (some ⟨b, off, none⟩) zs) (hn : zs.length = n) (hl : n ≤ 281474976710656) (hij : i ≤ j) (hj : j < n) (hm : m = j - i) (hc : m ≤ c) :
    Calls Tryz.prog 144 #[.slice (some ⟨b, off + i, none⟩) m c] w fun e w' => e = .returned (.int .i64 (u8At (sub zs i j) 0)) ∧ Below w.heap.size w w' := by
  obtain ⟨b', off', he, hlt, hcell⟩ := hz.2 (by rintro rfl; simp at hn; omega)
  cases he
  have hlen := sub_length zs i j hij (by omega)
  refine wutf8_off b (off + i) c m (sub zs i j) w hT (sub_bd hz.1 i j) hlt (fun k hk => ?_) (by omega) (by omega) hc
  rw [sub_get zs i j k (by omega), Nat.add_assoc]
  exact hcell (i + k) (by omega)
set_option maxHeartbeats 800000 in
theorem quoted_any (p : Option Addr) (n cap i : Nat) (x : Int) (zs : List Int) (w : World) (hx : x = i) (hT : Tabs w) (hz : Bytes w p zs) (hn : zs.length = n) (hl : n ≤ 281474976710656) (hi : i < n) (hcap : n ≤ cap) :
    Calls Tryz.prog 121 #[.slice p n cap, .int .i64 x] w fun e w' => e = .returned (quoVal zs i) ∧ Below w.heap.size w w' := by
  subst hx
  obtain ⟨b, off, rfl, _, _⟩ := hz.2 (by rintro rfl; simp at hn; omega)
  have HR := Lib.hid (fun (j : Nat) (y : Int) v k W hy hb hk => stands_any (some ⟨b, off, none⟩) n cap j y zs v k W hy (Bytes.below hz (Nat.le_refl _) hb) hn hk hl)
  have HU := Lib.hid (fun (j : Nat) (y : Int) v k W hy hj hb hk => run_any (some ⟨b, off, none⟩) n cap j y zs v k W hy (Bytes.below hz (Nat.le_refl _) hb) hn hk hl hj)
  have HQ := Lib.hid (fun c j m W hb hij hj hm hc => sub_utf8 b off c n (i + 1) j m zs W (Tabs.below hT (Nat.le_refl _) hb) (Bytes.below hz (Nat.le_refl _) hb) hn hl hij hj hm hc)
  have HN := Lib.hid hn
  have HV := Lib.hid (quoVal_eq zs i)
  have hlo := runTo_ge zs isPlain (i + 1)
  have hup := runTo_le zs isPlain (i + 1) (by omega)
  rw [show quoEnd zs i = runTo zs isPlain (i + 1) from rfl] at HV
  have HB0 : Hid (quoBad okU zs i = (!stA zs (isC 34) (runTo zs isPlain (i + 1)) || !okU (sub zs (i + 1) (runTo zs isPlain (i + 1))))) := rfl
  rw [HB0.out] at HV
  rw [HN.out] at hup
  clear hz hn hT HB0
  go_enter Tryz.func121, Tryz.ntmps121
  go_wp2_with fail
  refine (plain_any _).mono ?_
  rintro e W1 ⟨v1, rfl, hb1, hk1⟩
  have HK1 := Lib.hid hk1
  have HB1 := Lib.hid hb1
  clear hk1 hb1
  go_wp2_with fail
  refine (HU.out (i + 1) _ v1 isPlain W1 (by omega) (by omega) HB1.out HK1.out).mono ?_
  rintro e W2 ⟨rfl, hb2⟩
  have HB2 := Lib.hid (HB1.out.trans (hb2.mono HB1.out.size))
  clear hb2
  generalize runTo zs isPlain (i + 1) = E at hlo hup HV ⊢
  go_wp2_with fail
  refine (quote_any _).mono ?_
  rintro e W3 ⟨v3, rfl, hb3, hk3⟩
  have HK3 := Lib.hid hk3
  have HB3 := Lib.hid (HB2.out.trans (hb3.mono HB2.out.size))
  clear hk3 hb3
  go_wp2_with fail
  refine (HR.out E _ v3 (isC 34) W3 rfl HB3.out HK3.out).mono ?_
  rintro e W4 ⟨rfl, hb4⟩
  have HB4 := Lib.hid (HB3.out.trans (hb4.mono HB3.out.size))
  clear hb4
  cases h1 : stA zs (isC 34) E
  · have HV' := Lib.hid (HV.out.trans (if_pos (by rw [h1]; rfl)))
    clear h1
    go_wp2
    go_ret2
    exact ⟨by rw [HV'.out]; rfl, HB4.out⟩
  · have hlt := stA_lt h1
    rw [HN.out] at hlt
    have hE : ¬ cap = i + 1 := by omega
    have H1 := Lib.hid h1
    clear h1
    go_wp2_with fail
    refine (HQ.out _ E _ W4 HB4.out hlo hlt rfl (by omega)).mono ?_
    rintro e W5 ⟨rfl, hb5⟩
    have HB5 := Lib.hid (HB4.out.trans (hb5.mono HB4.out.size))
    clear hb5
    have HO : Hid (okU (sub zs (i + 1) E) = decide (u8At (sub zs (i + 1) E) 0 < 0)) := rfl
    generalize u8At (sub zs (i + 1) E) 0 = u at HO ⊢
    by_cases hu : u < 0
    · have HV' := Lib.hid (HV.out.trans (if_neg (by rw [H1.out, HO.out, decide_eq_true hu]; decide)))
      go_wp2
      go_ret2
      exact ⟨by rw [HV'.out]; rfl, HB5.out⟩
    · have HV' := Lib.hid (HV.out.trans (if_pos (by rw [H1.out, HO.out, decide_eq_false hu]; rfl)))
      go_wp2
      go_ret2
      exact ⟨by rw [HV'.out]; rfl, HB5.out⟩
end Go.Proofs.YtleclhnlojalbaaGreatDoor
namespace Go.Proofs.YtleclhnlojalbaaGreatDoor
open Go.ChangeShapes Go.WideShapes Go.ChangeAt Go.RowKit Go.Shelf
def tokVal : Option (Tok × Nat) → Value
  | none => .tuple #[.agg #[.int .i64 0, .string ByteArray.empty, .int .i64 0], .int .i64 0, .bool false]
  | some (t, e) => .tuple #[.agg #[.int .i64 t.kind, .string (strOfNums t.text), .int .i64 t.place], .int .i64 e, .bool true]
theorem sub_str (b off c n i j m t d : Nat) (zs : List Int) (w : World) (hz : Bytes w (some ⟨b, off, none⟩) zs) (hn : zs.length = n) (hij : i ≤ j) (hj : j ≤ n) (hi : i < n) (hm : m = j - i) (ht : t = 24) (hd : d = 9) :
    (convert t d (.slice (some ⟨b, off + i, none⟩) m c)).run Tryz.prog w = .ok (.string (strOfNums (sub zs i j))) w := by
  subst ht hd
  obtain ⟨b', off', he, hlt, hcell⟩ := hz.2 (by rintro rfl; simp at hn; omega)
  cases he
  refine run_convert_bytes_arg (P := Tryz.prog) w 24 5 Tryz.underlying24 Tryz.underlying5 b (off + i) m c (sub zs i j) (by rw [sub_length zs i j hij (by omega), hm]) (fun k hk => ?_) 9 Tryz.underlying9
  rw [sub_get zs i j k (by omega), Nat.add_assoc]
  exact hcell (i + k) (by omega)
def ResBlk (g : Nat) (W : World) : Prop := W.heap[g]? = some (.cells #[.int .i64 0, .string ⟨#[]⟩, .int .i64 0] 109 (0, 0))
theorem ResBlk.later {g : Nat} {W W' : World} (h : ResBlk g W) (hb : Below W.heap.size W W') : ResBlk g W' := by
  have hlt : g < W.heap.size := by
    rcases Nat.lt_or_ge g W.heap.size with h' | h'
    · exact h'
    · unfold ResBlk at h
      rw [Array.getElem?_eq_none h'] at h
      cases h
  exact (hb.block g hlt).trans h
theorem ResBlk.facts {g : Nat} {W : World} (h : ResBlk g W) : W.cell? ⟨g, 0, none⟩ = some (.int .i64 0) ∧ W.cell? ⟨g, 1, none⟩ = some (.string ⟨#[]⟩) ∧ W.cell? ⟨g, 2, none⟩ = some (.int .i64 0) ∧ W.frozen? ⟨g, 0, none⟩ = false ∧ W.frozen? ⟨g, 1, none⟩ = false ∧ W.frozen? ⟨g, 2, none⟩ = false := by
  refine ⟨?_, ?_, ?_, ?_, ?_, ?_⟩
  · rw [cell_of_row W g 0 _ _ (0, 0) h]; rfl
  · rw [cell_of_row W g 1 _ _ (0, 0) h]; rfl
  · rw [cell_of_row W g 2 _ _ (0, 0) h]; rfl
  · simp [World.frozen?, show W.heap[g]? = _ from h]
  · simp [World.frozen?, show W.heap[g]? = _ from h]
  · simp [World.frozen?, show W.heap[g]? = _ from h]
theorem resBlk_new (w : World) : ResBlk w.heap.size (w.alloc (.cells #[.int .i64 0, .string ⟨#[]⟩, .int .i64 0] 109)) := heap_alloc_new w _
set_option maxHeartbeats 800000 in
theorem token_end (p : Option Addr) (n cap i : Nat) (x : Int) (v : Value) (w : World) (hx : x = i) (hi : i = n) :
    Calls Tryz.prog 92 #[.slice p n cap, .int .i64 x, v] w fun e w' => e = .returned (tokVal (some (⟨0, [], i⟩, i))) ∧ Below w.heap.size w w' := by
  subst hx
  subst hi
  go_enter Tryz.func92, Tryz.ntmps92
  go_wp2
  exact bodyPost_ret (v := .tuple #[.agg #[.int .i64 0, .string ⟨#[]⟩, .int .i64 i], .int .i64 i, .bool true]) (by simp [results, Tryz.results92, go_sem]) rfl ⟨rfl, (Below.refl _ _).alloc (Nat.le_refl _) _⟩
set_option maxHeartbeats 800000 in
theorem token_name (b off n cap i : Nat) (x : Int) (v : Value) (zs : List Int) (w : World) (hx : x = i) (hz : Bytes w (some ⟨b, off, none⟩) zs) (hn : zs.length = n) (hl : n ≤ 281474976710656) (hi : i < n) (hcap : n ≤ cap) (h1 : stA zs isLet i = true) :
    Calls Tryz.prog 92 #[.slice (some ⟨b, off, none⟩) n cap, .int .i64 x, v] w fun e w' => e = .returned (tokVal (some (⟨1, sub zs i (runTo zs (fun c => isLet c || isDig c) i), i⟩, runTo zs (fun c => isLet c || isDig c) i))) ∧ Below w.heap.size w w' := by
  subst hx
  have HR := Lib.hid (fun (j : Nat) (y : Int) v k W hy hb hk => stands_any (some ⟨b, off, none⟩) n cap j y zs v k W hy (Bytes.below hz (Nat.le_refl _) hb) hn hk hl)
  have HU := Lib.hid (fun (j : Nat) (y : Int) v k W hy hj hb hk => run_any (some ⟨b, off, none⟩) n cap j y zs v k W hy (Bytes.below hz (Nat.le_refl _) hb) hn hk hl hj)
  have HS := Lib.hid (fun c j m t d W hb hij hj hm ht hd => sub_str b off c n i j m t d zs W (Bytes.below hz (Nat.le_refl _) hb) hn hij hj hi hm ht hd)
  have H1 := Lib.hid h1
  have hlo := runTo_ge zs (fun c => isLet c || isDig c) i
  have hup := runTo_le zs (fun c => isLet c || isDig c) i (by omega)
  rw [hn] at hup
  generalize hE : runTo zs (fun c => isLet c || isDig c) i = E at hlo hup ⊢
  have HE := Lib.hid hE
  clear hz hn h1 hE
  have t0 : ((i : Int) == (n : Int)) = false := by simp; omega
  go_enter Tryz.func92, Tryz.ntmps92
  go_wp2_with fail
  refine (letter_any _).mono ?_
  rintro e W1 ⟨v1, rfl, hb1, hk1⟩
  have HK1 := Lib.hid hk1
  have HG1 := Lib.hid ((resBlk_new w).later hb1)
  have HB1 := Lib.hid (((Below.refl _ _).alloc (Nat.le_refl _) _).trans (hb1.mono (by simp)))
  clear hk1 hb1
  go_wp2_with fail
  refine (HR.out i _ v1 isLet W1 rfl HB1.out HK1.out).mono ?_
  rintro e W2 ⟨rfl, hb2⟩
  have HG2 := Lib.hid (HG1.out.later hb2)
  have HB2 := Lib.hid (HB1.out.trans (hb2.mono HB1.out.size))
  clear hb2
  rw [H1.out]
  go_wp2_with fail
  refine (letter_any _).mono ?_
  rintro e W3 ⟨v3, rfl, hb3, hk3⟩
  have HK3 := Lib.hid hk3
  have HG3 := Lib.hid (HG2.out.later hb3)
  have HB3 := Lib.hid (HB2.out.trans (hb3.mono HB2.out.size))
  clear hk3 hb3
  go_wp2_with fail
  refine (digit_any _).mono ?_
  rintro e W4 ⟨v4, rfl, hb4, hk4⟩
  have HK4 := Lib.hid hk4
  have HK3' := Lib.hid (HK3.out.later hb4)
  have HG4 := Lib.hid (HG3.out.later hb4)
  have HB4 := Lib.hid (HB3.out.trans (hb4.mono HB3.out.size))
  clear hk4 hb4
  go_wp2_with fail
  refine (either_any v3 v4 _ _ _ HK3'.out HK4.out).mono ?_
  rintro e W5 ⟨v5, rfl, hb5, hk5⟩
  have HK5 := Lib.hid hk5
  have HG5 := Lib.hid (HG4.out.later hb5)
  have HB5 := Lib.hid (HB4.out.trans (hb5.mono HB4.out.size))
  clear hk5 hb5
  go_wp2_with fail
  refine (HU.out i _ v5 _ W5 rfl (by omega) HB5.out HK5.out).mono ?_
  rintro e W6 ⟨rfl, hb6⟩
  have HG6 := Lib.hid (HG5.out.later hb6)
  have HB6 := Lib.hid (HB5.out.trans (hb6.mono HB5.out.size))
  clear hb6
  rw [HE.out]
  have kc := HS.out (cap - i) E (E - i) 24 9 W6 HB6.out hlo hup rfl rfl rfl
  obtain ⟨g0, g1, g2, f0, f1, f2⟩ := HG6.out.facts
  have hci : ¬ cap = i := by omega
  go_wp2
  exact bodyPost_ret (v := .tuple #[.agg #[.int .i64 1, .string (strOfNums (sub zs i E)), .int .i64 i], .int .i64 E, .bool true]) (by simp [results, Tryz.results92, go_sem, g0, g1, g2]) rfl ⟨rfl, ((HB6.out.setCell (Nat.le_refl _) _).setCell (Nat.le_refl _) _).setCell (Nat.le_refl _) _⟩
end Go.Proofs.YtleclhnlojalbaaGreatDoor
namespace Go.Proofs.YtleclhnlojalbaaGreatDoor
open Go.ChangeShapes Go.WideShapes Go.ChangeAt Go.RowKit Go.Shelf

theorem numEnd_ge (zs : List Int) (i : Nat) : i ≤ numEnd zs i := by
  have h := runTo_ge zs isDig (minusTo zs i)
  have h2 : i ≤ minusTo zs i := by unfold minusTo; split <;> omega
  unfold numEnd
  omega
theorem numEnd_le (zs : List Int) (i : Nat) (h : i ≤ zs.length) : numEnd zs i ≤ zs.length := by
  unfold numEnd
  refine runTo_le zs isDig _ ?_
  unfold minusTo
  split
  · rename_i h1
    have := stA_lt h1
    omega
  · exact h
theorem quoGood_lt {ok : List Int → Bool} {zs : List Int} {i : Nat} (h : quoBad ok zs i = false) : quoEnd zs i < zs.length := by
  unfold quoBad at h
  cases h1 : stA zs (isC 34) (quoEnd zs i)
  · rw [h1] at h
    cases h
  · exact stA_lt h1
set_option maxHeartbeats 800000 in
theorem token_num_bad (b off n cap i : Nat) (x : Int) (v : Value) (sg : Int → Bool) (zs : List Int) (w : World) (hx : x = i) (hT : Tabs w) (hz : Bytes w (some ⟨b, off, none⟩) zs) (hn : zs.length = n) (hl : n ≤ 281474976710656) (hi : i < n) (hcap : n ≤ cap) (hk : KindV w v sg) (h1 : stA zs isLet i = false) (h2 : begins zs i = true) (h5 : numBad zs i = true) :
    Calls Tryz.prog 92 #[.slice (some ⟨b, off, none⟩) n cap, .int .i64 x, v] w fun e w' => e = .returned (tokVal (none)) ∧ Below w.heap.size w w' := by
  subst hx
  have HKS := Lib.hid hk
  have HR := Lib.hid (fun (j : Nat) (y : Int) v k W hy hb hk => stands_any (some ⟨b, off, none⟩) n cap j y zs v k W hy (Bytes.below hz (Nat.le_refl _) hb) hn hk hl)
  have HS := Lib.hid (fun c a j m t d W hb hij hj ha hm ht hd => sub_str b off c n a j m t d zs W (Bytes.below hz (Nat.le_refl _) hb) hn hij hj ha hm ht hd)
  have HBG := Lib.hid (fun W hb => begins_any (some ⟨b, off, none⟩) n cap i i zs W rfl (Bytes.below hz (Nat.le_refl _) hb) hn hl (by omega))
  have HNU := Lib.hid (fun W hb => number_any (some ⟨b, off, none⟩) n cap i i zs W rfl (Bytes.below hz (Nat.le_refl _) hb) hn hl (by omega))
  have HQU := Lib.hid (fun W hb => quoted_any (some ⟨b, off, none⟩) n cap i i zs W rfl (Tabs.below hT (Nat.le_refl _) hb) (Bytes.below hz (Nat.le_refl _) hb) hn hl hi hcap)
  have HN := Lib.hid hn
  have H1 := Lib.hid h1
  have H2 := Lib.hid h2
  have H5 : Hid (numVal zs i = .tuple #[.int .i64 0, .bool false]) := numVal_bad _ h5
  clear h5
  clear hz hn hT hk h1 h2
  have t0 : ((i : Int) == (n : Int)) = false := by simp; omega
  go_enter Tryz.func92, Tryz.ntmps92
  go_wp2_with fail
  refine (letter_any _).mono ?_
  rintro e W1 ⟨v1, rfl, hb1, hk1⟩
  have HK1 := Lib.hid hk1
  have HG1 := Lib.hid ((resBlk_new w).later hb1)
  have HB1 := Lib.hid (((Below.refl _ _).alloc (Nat.le_refl _) _).trans (hb1.mono (by simp)))
  clear hk1 hb1
  go_wp2_with fail
  refine (HR.out i _ v1 isLet W1 rfl HB1.out HK1.out).mono ?_
  rintro e W2 ⟨rfl, hb2⟩
  have HG2 := Lib.hid (HG1.out.later hb2)
  have HB2 := Lib.hid (HB1.out.trans (hb2.mono HB1.out.size))
  clear hb2
  rw [H1.out]
  go_wp2_with fail
  refine (HBG.out W2 HB2.out).mono ?_
  rintro e W3 ⟨rfl, hb3⟩
  have HG3 := Lib.hid (HG2.out.later hb3)
  have HB3 := Lib.hid (HB2.out.trans (hb3.mono HB2.out.size))
  clear hb3
  rw [H2.out]
  go_wp2_with fail
  refine (HNU.out W3 HB3.out).mono ?_
  rintro e W4 ⟨rfl, hb4⟩
  have HG4 := Lib.hid (HG3.out.later hb4)
  have HB4 := Lib.hid (HB3.out.trans (hb4.mono HB3.out.size))
  clear hb4
  rw [H5.out]
  obtain ⟨g0, g1, g2, f0, f1, f2⟩ := HG4.out.facts
  go_wp2
  exact bodyPost_ret (v := .tuple #[.agg #[.int .i64 0, .string ⟨#[]⟩, .int .i64 0], .int .i64 0, .bool false]) (by simp [results, Tryz.results92, go_sem, g0, g1, g2]) rfl ⟨rfl, ((HB4.out.setCell (Nat.le_refl _) _).setCell (Nat.le_refl _) _).setCell (Nat.le_refl _) _⟩
set_option maxHeartbeats 800000 in
theorem token_num_good (b off n cap i : Nat) (x : Int) (v : Value) (sg : Int → Bool) (zs : List Int) (w : World) (hx : x = i) (hT : Tabs w) (hz : Bytes w (some ⟨b, off, none⟩) zs) (hn : zs.length = n) (hl : n ≤ 281474976710656) (hi : i < n) (hcap : n ≤ cap) (hk : KindV w v sg) (h1 : stA zs isLet i = false) (h2 : begins zs i = true) (h5 : numBad zs i = false) :
    Calls Tryz.prog 92 #[.slice (some ⟨b, off, none⟩) n cap, .int .i64 x, v] w fun e w' => e = .returned (tokVal (some (⟨2, sub zs i (numEnd zs i), i⟩, numEnd zs i))) ∧ Below w.heap.size w w' := by
  subst hx
  have HKS := Lib.hid hk
  have HR := Lib.hid (fun (j : Nat) (y : Int) v k W hy hb hk => stands_any (some ⟨b, off, none⟩) n cap j y zs v k W hy (Bytes.below hz (Nat.le_refl _) hb) hn hk hl)
  have HS := Lib.hid (fun c a j m t d W hb hij hj ha hm ht hd => sub_str b off c n a j m t d zs W (Bytes.below hz (Nat.le_refl _) hb) hn hij hj ha hm ht hd)
  have HBG := Lib.hid (fun W hb => begins_any (some ⟨b, off, none⟩) n cap i i zs W rfl (Bytes.below hz (Nat.le_refl _) hb) hn hl (by omega))
  have HNU := Lib.hid (fun W hb => number_any (some ⟨b, off, none⟩) n cap i i zs W rfl (Bytes.below hz (Nat.le_refl _) hb) hn hl (by omega))
  have HQU := Lib.hid (fun W hb => quoted_any (some ⟨b, off, none⟩) n cap i i zs W rfl (Tabs.below hT (Nat.le_refl _) hb) (Bytes.below hz (Nat.le_refl _) hb) hn hl hi hcap)
  have HN := Lib.hid hn
  have H1 := Lib.hid h1
  have H2 := Lib.hid h2
  have H5 : Hid (numVal zs i = .tuple #[.int .i64 (numEnd zs i : Nat), .bool true]) := numVal_good _ h5
  have hlo := numEnd_ge zs i
  have hup := numEnd_le zs i (by omega)
  rw [hn] at hup
  generalize numEnd zs i = E at hlo hup H5 ⊢
  clear h5
  clear hz hn hT hk h1 h2
  have t0 : ((i : Int) == (n : Int)) = false := by simp; omega
  go_enter Tryz.func92, Tryz.ntmps92
  go_wp2_with fail
  refine (letter_any _).mono ?_
  rintro e W1 ⟨v1, rfl, hb1, hk1⟩
  have HK1 := Lib.hid hk1
  have HG1 := Lib.hid ((resBlk_new w).later hb1)
  have HB1 := Lib.hid (((Below.refl _ _).alloc (Nat.le_refl _) _).trans (hb1.mono (by simp)))
  clear hk1 hb1
  go_wp2_with fail
  refine (HR.out i _ v1 isLet W1 rfl HB1.out HK1.out).mono ?_
  rintro e W2 ⟨rfl, hb2⟩
  have HG2 := Lib.hid (HG1.out.later hb2)
  have HB2 := Lib.hid (HB1.out.trans (hb2.mono HB1.out.size))
  clear hb2
  rw [H1.out]
  go_wp2_with fail
  refine (HBG.out W2 HB2.out).mono ?_
  rintro e W3 ⟨rfl, hb3⟩
  have HG3 := Lib.hid (HG2.out.later hb3)
  have HB3 := Lib.hid (HB2.out.trans (hb3.mono HB2.out.size))
  clear hb3
  rw [H2.out]
  go_wp2_with fail
  refine (HNU.out W3 HB3.out).mono ?_
  rintro e W4 ⟨rfl, hb4⟩
  have HG4 := Lib.hid (HG3.out.later hb4)
  have HB4 := Lib.hid (HB3.out.trans (hb4.mono HB3.out.size))
  clear hb4
  rw [H5.out]
  have kc := HS.out (cap - i) i E (E - i) 24 9 W4 HB4.out hlo hup hi rfl rfl rfl
  have hci : ¬ cap = i := by omega
  obtain ⟨g0, g1, g2, f0, f1, f2⟩ := HG4.out.facts
  go_wp2
  exact bodyPost_ret (v := .tuple #[.agg #[.int .i64 2, .string (strOfNums (sub zs i E)), .int .i64 i], .int .i64 E, .bool true]) (by simp [results, Tryz.results92, go_sem, g0, g1, g2]) rfl ⟨rfl, ((HB4.out.setCell (Nat.le_refl _) _).setCell (Nat.le_refl _) _).setCell (Nat.le_refl _) _⟩
set_option maxHeartbeats 800000 in
theorem token_quo_bad (b off n cap i : Nat) (x : Int) (v : Value) (sg : Int → Bool) (zs : List Int) (w : World) (hx : x = i) (hT : Tabs w) (hz : Bytes w (some ⟨b, off, none⟩) zs) (hn : zs.length = n) (hl : n ≤ 281474976710656) (hi : i < n) (hcap : n ≤ cap) (hk : KindV w v sg) (h1 : stA zs isLet i = false) (h2 : begins zs i = false) (h3 : stA zs (isC 34) i = true) (h5 : quoBad okU zs i = true) :
    Calls Tryz.prog 92 #[.slice (some ⟨b, off, none⟩) n cap, .int .i64 x, v] w fun e w' => e = .returned (tokVal (none)) ∧ Below w.heap.size w w' := by
  subst hx
  have HKS := Lib.hid hk
  have HR := Lib.hid (fun (j : Nat) (y : Int) v k W hy hb hk => stands_any (some ⟨b, off, none⟩) n cap j y zs v k W hy (Bytes.below hz (Nat.le_refl _) hb) hn hk hl)
  have HS := Lib.hid (fun c a j m t d W hb hij hj ha hm ht hd => sub_str b off c n a j m t d zs W (Bytes.below hz (Nat.le_refl _) hb) hn hij hj ha hm ht hd)
  have HBG := Lib.hid (fun W hb => begins_any (some ⟨b, off, none⟩) n cap i i zs W rfl (Bytes.below hz (Nat.le_refl _) hb) hn hl (by omega))
  have HNU := Lib.hid (fun W hb => number_any (some ⟨b, off, none⟩) n cap i i zs W rfl (Bytes.below hz (Nat.le_refl _) hb) hn hl (by omega))
  have HQU := Lib.hid (fun W hb => quoted_any (some ⟨b, off, none⟩) n cap i i zs W rfl (Tabs.below hT (Nat.le_refl _) hb) (Bytes.below hz (Nat.le_refl _) hb) hn hl hi hcap)
  have HN := Lib.hid hn
  have H1 := Lib.hid h1
  have H2 := Lib.hid h2
  have H3 := Lib.hid h3
  have H5 : Hid (quoVal zs i = .tuple #[.int .i64 0, .bool false]) := if_pos h5
  clear h5
  clear hz hn hT hk h1 h2 h3
  have t0 : ((i : Int) == (n : Int)) = false := by simp; omega
  go_enter Tryz.func92, Tryz.ntmps92
  go_wp2_with fail
  refine (letter_any _).mono ?_
  rintro e W1 ⟨v1, rfl, hb1, hk1⟩
  have HK1 := Lib.hid hk1
  have HG1 := Lib.hid ((resBlk_new w).later hb1)
  have HB1 := Lib.hid (((Below.refl _ _).alloc (Nat.le_refl _) _).trans (hb1.mono (by simp)))
  clear hk1 hb1
  go_wp2_with fail
  refine (HR.out i _ v1 isLet W1 rfl HB1.out HK1.out).mono ?_
  rintro e W2 ⟨rfl, hb2⟩
  have HG2 := Lib.hid (HG1.out.later hb2)
  have HB2 := Lib.hid (HB1.out.trans (hb2.mono HB1.out.size))
  clear hb2
  rw [H1.out]
  go_wp2_with fail
  refine (HBG.out W2 HB2.out).mono ?_
  rintro e W3 ⟨rfl, hb3⟩
  have HG3 := Lib.hid (HG2.out.later hb3)
  have HB3 := Lib.hid (HB2.out.trans (hb3.mono HB2.out.size))
  clear hb3
  rw [H2.out]
  go_wp2_with fail
  refine (quote_any _).mono ?_
  rintro e W4 ⟨v4, rfl, hb4, hk4⟩
  have HK4 := Lib.hid hk4
  have HG4 := Lib.hid (HG3.out.later hb4)
  have HB4 := Lib.hid (HB3.out.trans (hb4.mono HB3.out.size))
  clear hk4 hb4
  go_wp2_with fail
  refine (HR.out i _ v4 (isC 34) W4 rfl HB4.out HK4.out).mono ?_
  rintro e W5 ⟨rfl, hb5⟩
  have HG5 := Lib.hid (HG4.out.later hb5)
  have HB5 := Lib.hid (HB4.out.trans (hb5.mono HB4.out.size))
  clear hb5
  rw [H3.out]
  go_wp2_with fail
  refine (HQU.out W5 HB5.out).mono ?_
  rintro e W6 ⟨rfl, hb6⟩
  have HG6 := Lib.hid (HG5.out.later hb6)
  have HB6 := Lib.hid (HB5.out.trans (hb6.mono HB5.out.size))
  clear hb6
  rw [H5.out]
  obtain ⟨g0, g1, g2, f0, f1, f2⟩ := HG6.out.facts
  go_wp2
  exact bodyPost_ret (v := .tuple #[.agg #[.int .i64 0, .string ⟨#[]⟩, .int .i64 0], .int .i64 0, .bool false]) (by simp [results, Tryz.results92, go_sem, g0, g1, g2]) rfl ⟨rfl, ((HB6.out.setCell (Nat.le_refl _) _).setCell (Nat.le_refl _) _).setCell (Nat.le_refl _) _⟩
set_option maxHeartbeats 800000 in
theorem token_quo_good (b off n cap i : Nat) (x : Int) (v : Value) (sg : Int → Bool) (zs : List Int) (w : World) (hx : x = i) (hT : Tabs w) (hz : Bytes w (some ⟨b, off, none⟩) zs) (hn : zs.length = n) (hl : n ≤ 281474976710656) (hi : i < n) (hcap : n ≤ cap) (hk : KindV w v sg) (h1 : stA zs isLet i = false) (h2 : begins zs i = false) (h3 : stA zs (isC 34) i = true) (h5 : quoBad okU zs i = false) :
    Calls Tryz.prog 92 #[.slice (some ⟨b, off, none⟩) n cap, .int .i64 x, v] w fun e w' => e = .returned (tokVal (some (⟨3, sub zs (i + 1) (quoEnd zs i), i⟩, quoEnd zs i + 1))) ∧ Below w.heap.size w w' := by
  subst hx
  have HKS := Lib.hid hk
  have HR := Lib.hid (fun (j : Nat) (y : Int) v k W hy hb hk => stands_any (some ⟨b, off, none⟩) n cap j y zs v k W hy (Bytes.below hz (Nat.le_refl _) hb) hn hk hl)
  have HS := Lib.hid (fun c a j m t d W hb hij hj ha hm ht hd => sub_str b off c n a j m t d zs W (Bytes.below hz (Nat.le_refl _) hb) hn hij hj ha hm ht hd)
  have HBG := Lib.hid (fun W hb => begins_any (some ⟨b, off, none⟩) n cap i i zs W rfl (Bytes.below hz (Nat.le_refl _) hb) hn hl (by omega))
  have HNU := Lib.hid (fun W hb => number_any (some ⟨b, off, none⟩) n cap i i zs W rfl (Bytes.below hz (Nat.le_refl _) hb) hn hl (by omega))
  have HQU := Lib.hid (fun W hb => quoted_any (some ⟨b, off, none⟩) n cap i i zs W rfl (Tabs.below hT (Nat.le_refl _) hb) (Bytes.below hz (Nat.le_refl _) hb) hn hl hi hcap)
  have HN := Lib.hid hn
  have H1 := Lib.hid h1
  have H2 := Lib.hid h2
  have H3 := Lib.hid h3
  have H5 : Hid (quoVal zs i = .tuple #[.int .i64 (quoEnd zs i + 1 : Nat), .bool true]) := if_neg (by rw [h5]; decide)
  have hlo : i + 1 ≤ quoEnd zs i := runTo_ge zs isPlain (i + 1)
  have hup := quoGood_lt h5
  rw [hn] at hup
  generalize quoEnd zs i = E at hlo hup H5 ⊢
  clear h5
  clear hz hn hT hk h1 h2 h3
  have t0 : ((i : Int) == (n : Int)) = false := by simp; omega
  go_enter Tryz.func92, Tryz.ntmps92
  go_wp2_with fail
  refine (letter_any _).mono ?_
  rintro e W1 ⟨v1, rfl, hb1, hk1⟩
  have HK1 := Lib.hid hk1
  have HG1 := Lib.hid ((resBlk_new w).later hb1)
  have HB1 := Lib.hid (((Below.refl _ _).alloc (Nat.le_refl _) _).trans (hb1.mono (by simp)))
  clear hk1 hb1
  go_wp2_with fail
  refine (HR.out i _ v1 isLet W1 rfl HB1.out HK1.out).mono ?_
  rintro e W2 ⟨rfl, hb2⟩
  have HG2 := Lib.hid (HG1.out.later hb2)
  have HB2 := Lib.hid (HB1.out.trans (hb2.mono HB1.out.size))
  clear hb2
  rw [H1.out]
  go_wp2_with fail
  refine (HBG.out W2 HB2.out).mono ?_
  rintro e W3 ⟨rfl, hb3⟩
  have HG3 := Lib.hid (HG2.out.later hb3)
  have HB3 := Lib.hid (HB2.out.trans (hb3.mono HB2.out.size))
  clear hb3
  rw [H2.out]
  go_wp2_with fail
  refine (quote_any _).mono ?_
  rintro e W4 ⟨v4, rfl, hb4, hk4⟩
  have HK4 := Lib.hid hk4
  have HG4 := Lib.hid (HG3.out.later hb4)
  have HB4 := Lib.hid (HB3.out.trans (hb4.mono HB3.out.size))
  clear hk4 hb4
  go_wp2_with fail
  refine (HR.out i _ v4 (isC 34) W4 rfl HB4.out HK4.out).mono ?_
  rintro e W5 ⟨rfl, hb5⟩
  have HG5 := Lib.hid (HG4.out.later hb5)
  have HB5 := Lib.hid (HB4.out.trans (hb5.mono HB4.out.size))
  clear hb5
  rw [H3.out]
  go_wp2_with fail
  refine (HQU.out W5 HB5.out).mono ?_
  rintro e W6 ⟨rfl, hb6⟩
  have HG6 := Lib.hid (HG5.out.later hb6)
  have HB6 := Lib.hid (HB5.out.trans (hb6.mono HB5.out.size))
  clear hb6
  rw [H5.out]
  have kc := HS.out (cap - (i + 1)) (i + 1) E (E - (i + 1)) 24 9 W6 HB6.out hlo (by omega) (by omega) rfl rfl rfl
  have hci : ¬ cap = i + 1 := by omega
  obtain ⟨g0, g1, g2, f0, f1, f2⟩ := HG6.out.facts
  go_wp2
  exact bodyPost_ret (v := .tuple #[.agg #[.int .i64 3, .string (strOfNums (sub zs (i + 1) E)), .int .i64 i], .int .i64 (E + 1 : Nat), .bool true]) (by simp [results, Tryz.results92, go_sem, g0, g1, g2]) rfl ⟨rfl, ((HB6.out.setCell (Nat.le_refl _) _).setCell (Nat.le_refl _) _).setCell (Nat.le_refl _) _⟩
set_option maxHeartbeats 800000 in
theorem token_sign (b off n cap i : Nat) (x : Int) (v : Value) (sg : Int → Bool) (zs : List Int) (w : World) (hx : x = i) (hT : Tabs w) (hz : Bytes w (some ⟨b, off, none⟩) zs) (hn : zs.length = n) (hl : n ≤ 281474976710656) (hi : i < n) (hcap : n ≤ cap) (hk : KindV w v sg) (h1 : stA zs isLet i = false) (h2 : begins zs i = false) (h3 : stA zs (isC 34) i = false) (h4 : stA zs sg i = true) :
    Calls Tryz.prog 92 #[.slice (some ⟨b, off, none⟩) n cap, .int .i64 x, v] w fun e w' => e = .returned (tokVal (some (⟨4, sub zs i (i + 1), i⟩, i + 1))) ∧ Below w.heap.size w w' := by
  subst hx
  have HKS := Lib.hid hk
  have HR := Lib.hid (fun (j : Nat) (y : Int) v k W hy hb hk => stands_any (some ⟨b, off, none⟩) n cap j y zs v k W hy (Bytes.below hz (Nat.le_refl _) hb) hn hk hl)
  have HS := Lib.hid (fun c a j m t d W hb hij hj ha hm ht hd => sub_str b off c n a j m t d zs W (Bytes.below hz (Nat.le_refl _) hb) hn hij hj ha hm ht hd)
  have HBG := Lib.hid (fun W hb => begins_any (some ⟨b, off, none⟩) n cap i i zs W rfl (Bytes.below hz (Nat.le_refl _) hb) hn hl (by omega))
  have HNU := Lib.hid (fun W hb => number_any (some ⟨b, off, none⟩) n cap i i zs W rfl (Bytes.below hz (Nat.le_refl _) hb) hn hl (by omega))
  have HQU := Lib.hid (fun W hb => quoted_any (some ⟨b, off, none⟩) n cap i i zs W rfl (Tabs.below hT (Nat.le_refl _) hb) (Bytes.below hz (Nat.le_refl _) hb) hn hl hi hcap)
  have HN := Lib.hid hn
  have H1 := Lib.hid h1
  have H2 := Lib.hid h2
  have H3 := Lib.hid h3
  have H4 := Lib.hid h4
  clear hz hn hT hk h1 h2 h3 h4
  have t0 : ((i : Int) == (n : Int)) = false := by simp; omega
  go_enter Tryz.func92, Tryz.ntmps92
  go_wp2_with fail
  refine (letter_any _).mono ?_
  rintro e W1 ⟨v1, rfl, hb1, hk1⟩
  have HK1 := Lib.hid hk1
  have HG1 := Lib.hid ((resBlk_new w).later hb1)
  have HB1 := Lib.hid (((Below.refl _ _).alloc (Nat.le_refl _) _).trans (hb1.mono (by simp)))
  clear hk1 hb1
  go_wp2_with fail
  refine (HR.out i _ v1 isLet W1 rfl HB1.out HK1.out).mono ?_
  rintro e W2 ⟨rfl, hb2⟩
  have HG2 := Lib.hid (HG1.out.later hb2)
  have HB2 := Lib.hid (HB1.out.trans (hb2.mono HB1.out.size))
  clear hb2
  rw [H1.out]
  go_wp2_with fail
  refine (HBG.out W2 HB2.out).mono ?_
  rintro e W3 ⟨rfl, hb3⟩
  have HG3 := Lib.hid (HG2.out.later hb3)
  have HB3 := Lib.hid (HB2.out.trans (hb3.mono HB2.out.size))
  clear hb3
  rw [H2.out]
  go_wp2_with fail
  refine (quote_any _).mono ?_
  rintro e W4 ⟨v4, rfl, hb4, hk4⟩
  have HK4 := Lib.hid hk4
  have HG4 := Lib.hid (HG3.out.later hb4)
  have HB4 := Lib.hid (HB3.out.trans (hb4.mono HB3.out.size))
  clear hk4 hb4
  go_wp2_with fail
  refine (HR.out i _ v4 (isC 34) W4 rfl HB4.out HK4.out).mono ?_
  rintro e W5 ⟨rfl, hb5⟩
  have HG5 := Lib.hid (HG4.out.later hb5)
  have HB5 := Lib.hid (HB4.out.trans (hb5.mono HB4.out.size))
  clear hb5
  rw [H3.out]
  go_wp2_with fail
  refine (HR.out i _ v sg W5 rfl HB5.out (HKS.out.later HB5.out)).mono ?_
  rintro e W6 ⟨rfl, hb6⟩
  have HG6 := Lib.hid (HG5.out.later hb6)
  have HB6 := Lib.hid (HB5.out.trans (hb6.mono HB5.out.size))
  clear hb6
  rw [H4.out]
  have kc := HS.out (cap - i) i (i + 1) 1 24 9 W6 HB6.out (by omega) (by omega) hi (by omega) rfl rfl
  have hci : ¬ cap = i := by omega
  obtain ⟨g0, g1, g2, f0, f1, f2⟩ := HG6.out.facts
  go_wp2
  exact bodyPost_ret (v := .tuple #[.agg #[.int .i64 4, .string (strOfNums (sub zs i (i + 1))), .int .i64 i], .int .i64 (i + 1 : Nat), .bool true]) (by simp [results, Tryz.results92, go_sem, g0, g1, g2]) rfl ⟨rfl, ((HB6.out.setCell (Nat.le_refl _) _).setCell (Nat.le_refl _) _).setCell (Nat.le_refl _) _⟩
set_option maxHeartbeats 800000 in
theorem token_none (b off n cap i : Nat) (x : Int) (v : Value) (sg : Int → Bool) (zs : List Int) (w : World) (hx : x = i) (hT : Tabs w) (hz : Bytes w (some ⟨b, off, none⟩) zs) (hn : zs.length = n) (hl : n ≤ 281474976710656) (hi : i < n) (hcap : n ≤ cap) (hk : KindV w v sg) (h1 : stA zs isLet i = false) (h2 : begins zs i = false) (h3 : stA zs (isC 34) i = false) (h4 : stA zs sg i = false) :
    Calls Tryz.prog 92 #[.slice (some ⟨b, off, none⟩) n cap, .int .i64 x, v] w fun e w' => e = .returned (tokVal (none)) ∧ Below w.heap.size w w' := by
  subst hx
  have HKS := Lib.hid hk
  have HR := Lib.hid (fun (j : Nat) (y : Int) v k W hy hb hk => stands_any (some ⟨b, off, none⟩) n cap j y zs v k W hy (Bytes.below hz (Nat.le_refl _) hb) hn hk hl)
  have HS := Lib.hid (fun c a j m t d W hb hij hj ha hm ht hd => sub_str b off c n a j m t d zs W (Bytes.below hz (Nat.le_refl _) hb) hn hij hj ha hm ht hd)
  have HBG := Lib.hid (fun W hb => begins_any (some ⟨b, off, none⟩) n cap i i zs W rfl (Bytes.below hz (Nat.le_refl _) hb) hn hl (by omega))
  have HNU := Lib.hid (fun W hb => number_any (some ⟨b, off, none⟩) n cap i i zs W rfl (Bytes.below hz (Nat.le_refl _) hb) hn hl (by omega))
  have HQU := Lib.hid (fun W hb => quoted_any (some ⟨b, off, none⟩) n cap i i zs W rfl (Tabs.below hT (Nat.le_refl _) hb) (Bytes.below hz (Nat.le_refl _) hb) hn hl hi hcap)
  have HN := Lib.hid hn
  have H1 := Lib.hid h1
  have H2 := Lib.hid h2
  have H3 := Lib.hid h3
  have H4 := Lib.hid h4
  clear hz hn hT hk h1 h2 h3 h4
  have t0 : ((i : Int) == (n : Int)) = false := by simp; omega
  go_enter Tryz.func92, Tryz.ntmps92
  go_wp2_with fail
  refine (letter_any _).mono ?_
  rintro e W1 ⟨v1, rfl, hb1, hk1⟩
  have HK1 := Lib.hid hk1
  have HG1 := Lib.hid ((resBlk_new w).later hb1)
  have HB1 := Lib.hid (((Below.refl _ _).alloc (Nat.le_refl _) _).trans (hb1.mono (by simp)))
  clear hk1 hb1
  go_wp2_with fail
  refine (HR.out i _ v1 isLet W1 rfl HB1.out HK1.out).mono ?_
  rintro e W2 ⟨rfl, hb2⟩
  have HG2 := Lib.hid (HG1.out.later hb2)
  have HB2 := Lib.hid (HB1.out.trans (hb2.mono HB1.out.size))
  clear hb2
  rw [H1.out]
  go_wp2_with fail
  refine (HBG.out W2 HB2.out).mono ?_
  rintro e W3 ⟨rfl, hb3⟩
  have HG3 := Lib.hid (HG2.out.later hb3)
  have HB3 := Lib.hid (HB2.out.trans (hb3.mono HB2.out.size))
  clear hb3
  rw [H2.out]
  go_wp2_with fail
  refine (quote_any _).mono ?_
  rintro e W4 ⟨v4, rfl, hb4, hk4⟩
  have HK4 := Lib.hid hk4
  have HG4 := Lib.hid (HG3.out.later hb4)
  have HB4 := Lib.hid (HB3.out.trans (hb4.mono HB3.out.size))
  clear hk4 hb4
  go_wp2_with fail
  refine (HR.out i _ v4 (isC 34) W4 rfl HB4.out HK4.out).mono ?_
  rintro e W5 ⟨rfl, hb5⟩
  have HG5 := Lib.hid (HG4.out.later hb5)
  have HB5 := Lib.hid (HB4.out.trans (hb5.mono HB4.out.size))
  clear hb5
  rw [H3.out]
  go_wp2_with fail
  refine (HR.out i _ v sg W5 rfl HB5.out (HKS.out.later HB5.out)).mono ?_
  rintro e W6 ⟨rfl, hb6⟩
  have HG6 := Lib.hid (HG5.out.later hb6)
  have HB6 := Lib.hid (HB5.out.trans (hb6.mono HB5.out.size))
  clear hb6
  rw [H4.out]
  obtain ⟨g0, g1, g2, f0, f1, f2⟩ := HG6.out.facts
  go_wp2
  exact bodyPost_ret (v := .tuple #[.agg #[.int .i64 0, .string ⟨#[]⟩, .int .i64 0], .int .i64 0, .bool false]) (by simp [results, Tryz.results92, go_sem, g0, g1, g2]) rfl ⟨rfl, ((HB6.out.setCell (Nat.le_refl _) _).setCell (Nat.le_refl _) _).setCell (Nat.le_refl _) _⟩
end Go.Proofs.YtleclhnlojalbaaGreatDoor
namespace Go.Proofs.YtleclhnlojalbaaGreatDoor
open Go.ChangeShapes Go.WideShapes Go.ChangeAt Go.RowKit Go.Shelf

theorem token_any (p : Option Addr) (n cap i : Nat) (x : Int) (v : Value) (sg : Int → Bool) (zs : List Int) (w : World) (hx : x = i) (hT : Tabs w) (hz : Bytes w p zs) (hn : zs.length = n) (hl : n ≤ 281474976710656) (hi : i ≤ n) (hcap : n ≤ cap) (hk : KindV w v sg) :
    Calls Tryz.prog 92 #[.slice p n cap, .int .i64 x, v] w fun e w' => e = .returned (tokVal (tok okU sg zs i)) ∧ Below w.heap.size w w' := by
  by_cases he : i = n
  · rw [tok_end (show i = zs.length by omega)]
    exact token_end p n cap i x v w hx he
  have hi' : i < n := by omega
  have hiz : i < zs.length := by omega
  obtain ⟨b, off, rfl, _, _⟩ := hz.2 (by rintro rfl; simp at hiz)
  cases h1 : stA zs isLet i
  rotate_left
  · rw [tok_name hiz h1]
    exact token_name b off n cap i x v zs w hx hz hn hl hi' hcap h1
  cases h2 : begins zs i
  rotate_left
  · rw [tok_num hiz h1 h2]
    cases h5 : numBad zs i
    · rw [if_neg (by decide)]
      exact token_num_good b off n cap i x v sg zs w hx hT hz hn hl hi' hcap hk h1 h2 h5
    · rw [if_pos rfl]
      exact token_num_bad b off n cap i x v sg zs w hx hT hz hn hl hi' hcap hk h1 h2 h5
  cases h3 : stA zs (isC 34) i
  rotate_left
  · rw [tok_quo hiz h1 h2 h3]
    cases h5 : quoBad okU zs i
    · rw [if_neg (by decide)]
      exact token_quo_good b off n cap i x v sg zs w hx hT hz hn hl hi' hcap hk h1 h2 h3 h5
    · rw [if_pos rfl]
      exact token_quo_bad b off n cap i x v sg zs w hx hT hz hn hl hi' hcap hk h1 h2 h3 h5
  cases h4 : stA zs sg i
  · rw [tok_none hiz h1 h2 h3 h4]
    exact token_none b off n cap i x v sg zs w hx hT hz hn hl hi' hcap hk h1 h2 h3 h4
  · rw [tok_sign hiz h1 h2 h3 h4]
    exact token_sign b off n cap i x v sg zs w hx hT hz hn hl hi' hcap hk h1 h2 h3 h4
end Go.Proofs.YtleclhnlojalbaaGreatDoor
namespace Go.Proofs.YtleclhnlojalbaaGreatDoor
open Go.Proofs Go.Shelf
def Tryz.laysnb116_ren : Go.Shelf.Ren := ⟨fun | 116 => 112 | 115 => 138 | n => n, fun | 37 => 24 | 4 => 4 | 3 => 3 | 9 => 9 | 5 => 5 | n => n, fun | n => n⟩
theorem Tryz.laysnb116 : Go.Proofs.Lays.nb116 Tryz.prog Tryz.laysnb116_ren := {
  mixed := by kernel_rfl
  f115 := Tryz.func138.trans (congrArg some (by kernel_rfl))
  f116 := Tryz.func112.trans (congrArg some (by kernel_rfl))
  t3 := Tryz.underlying3
  a3 := Tryz.isAgg3
  z3 := Tryz.sizeOf3
  v3 := Tryz.zeroValue3
  t4 := Tryz.underlying4
  a4 := Tryz.isAgg4
  z4 := Tryz.sizeOf4
  v4 := Tryz.zeroValue4
  t9 := Tryz.underlying9
  a9 := Tryz.isAgg9
  z9 := Tryz.sizeOf9
  v9 := Tryz.zeroValue9
  t37 := Tryz.underlying24
  a37 := Tryz.isAgg24
  z37 := Tryz.sizeOf24
  v37 := Tryz.zeroValue24
  t5 := Tryz.underlying5
  a5 := Tryz.isAgg5
  z5 := Tryz.sizeOf5
  v5 := Tryz.zeroValue5 }
theorem Tryz.bytes_HasPrefix_all (p1 p2 : Option Addr) (n c m d : Nat) (xs ys : List Int) (w : World) (hx : xs.length = n) (hy : ys.length = m) (hnc : n ≤ c) (h1 : Lib.BytesIn w p1 n xs) (h2 : Lib.BytesIn w p2 m ys) :
    Calls Tryz.prog 112 #[.slice p1 n c, .slice p2 m d] w fun e w' => e = .returned (.bool (Lib.hasPrefix (Lib.bytesOf xs) (Lib.bytesOf ys))) ∧ w' = w := Any.bytes_HasPrefix_all Tryz.laysnb116 p1 p2 n c m d xs ys w hx hy hnc h1 h2
end Go.Proofs.YtleclhnlojalbaaGreatDoor
