/-
  The frame of the hand's Made where only some of its slots are known, and written out; the loops' bodies, out of the program's own translation. No run stands in this text. (Made by program: wip/tools/gen-madef.py.)
-/
import Derived.Test.YtleclhnlojalbaaGreatDoorPkW15
import Derived.Deep.RegionHeld3
namespace Go.Proofs.YtleclhnlojalbaaGreatDoor
open Go.ChangeShapes Go.WideShapes Go.ChangeAt Go.RowKit Go.Shelf

theorem fold_take {α : Type} (f : ByteArray → α → ByteArray) (t : ByteArray) (l : List α) (k : Nat) (a : α) (h : l[k]? = some a) : (l.take (k + 1)).foldl f t = f ((l.take k).foldl f t) a := by
  obtain ⟨hk, rfl⟩ := List.getElem?_eq_some_iff.1 h
  rw [List.take_succ_eq_append_getElem hk, List.foldl_append]
  rfl
theorem tyBase_of {S : Sch} (h : Few S) {r : SRec} (hr : r ∈ S.structs) {f : SFld} (hf : f ∈ r.fields) : TyBase S.structs S.enums f.kind f.ref (tyBaseS S.structs S.enums f.kind f.ref) := by
  obtain ⟨h1, h2, h3, h4, h5, h6, h7⟩ := h.fl r hr f hf
  unfold tyBaseS
  by_cases h10 : f.kind = 10
  · have hh := (h6 h10).choose
    rw [if_pos h10]
    exact .inl ⟨h10, hh, by rw [List.getD, List.getElem?_eq_getElem hh]; rfl⟩
  · rw [if_neg h10]
    by_cases h13 : f.kind = 13
    · have hh := h7 h13
      rw [if_pos h13]
      exact .inr (.inl ⟨h13, hh, by rw [List.getD, List.getElem?_eq_getElem hh]; rfl⟩)
    · rw [if_neg h13]
      exact .inr (.inr ⟨h10, by omega, rfl⟩)
theorem defS_of {es : List SCho} {kind ref n : Nat} {T : ByteArray} (h : DefIs es kind ref n T) : T = defS es kind ref n := by
  unfold defS
  rcases h with ⟨h1, rfl⟩ | ⟨h10, h, h2, rfl⟩ | ⟨h1, h10, hd⟩
  · rw [if_pos h1]
  · rw [if_neg (by omega), if_pos h10, List.getD, List.getD, List.getElem?_eq_getElem h, Option.getD_some, List.getElem?_eq_getElem h2]
    rfl
  · rw [if_neg h1, if_neg h10]
    unfold decS
    rw [← show bts T = _ from hd, strOf_bts]
def TextPost (S : Sch) (w : World) (e : Ending) (w' : World) : Prop := e = .returned (.string (textS S)) ∧ Below w.heap.size w w'
def ValsAt (t1 : ByteArray) (names : List ByteArray) (s i : Value) : Prop := ∃ k : Nat, k ≤ names.length ∧ i = .int .i64 k ∧ s = .string (textVals t1 (names.take k))
def EnumsAt (es : List SCho) (s i : Value) : Prop := ∃ k : Nat, k ≤ es.length ∧ i = .int .i64 k ∧ s = .string (textEnums ⟨#[]⟩ (es.take k))
def RecsAt (S : Sch) (T : ByteArray) (s i : Value) : Prop := ∃ k : Nat, k ≤ S.structs.length ∧ i = .int .i64 k ∧ s = .string (textRecs S T (S.structs.take k))
def FieldsIn (S : Sch) (T : ByteArray) (l : List SFld) (s i : Value) : Prop := ∃ k : Nat, k ≤ l.length ∧ i = .int .i64 k ∧ s = .string (textFields S T (l.take k))
set_option maxRecDepth 100000 in
set_option maxHeartbeats 16000000 in
theorem text_any (w : World) {b : Nat} {ss : List (SRec × Value)} {es : List (SCho × Value)} {sv ev : Value} (root : Nat) (h : SchRows b w ss es sv ev) (S : Sch) (hS : S = ⟨ss.map Prod.fst, es.map Prod.fst, root⟩) (hF : Few S) :
    Calls Tryz.prog 12 #[.agg #[sv, ev, .int .i64 root]] w (TextPost S w) := by
  obtain ⟨sa, sc, ea, ec, rfl, rfl⟩ := h.forms
  have hel : S.enums.length = es.length := by rw [hS]; simp
  have hsl : S.structs.length = ss.length := by rw [hS]; simp
  have hee : ∀ k (hk : k < es.length), S.enums[k]? = some es[k].1 := fun k hk => by subst hS; simp [hk]
  have hse : ∀ k (hk : k < ss.length), S.structs[k]? = some ss[k].1 := fun k hk => by subst hS; simp [hk]
  have hSs : S.structs = ss.map Prod.fst := by rw [hS]
  have hSe : S.enums = es.map Prod.fst := by rw [hS]
  have hSr : S.root = root := by rw [hS]
  have HEE := Lib.hid hee
  have HSE := Lib.hid hse
  have HSS := Lib.hid hSs
  have HSN := Lib.hid hSe
  have HSR := Lib.hid hSr
  have HEL := Lib.hid hel
  have HSL := Lib.hid hsl
  have hn1 : es.length ≤ 100 := by have := hF.ne; omega
  have hn2 : ss.length ≤ 100 := by have := hF.ns; omega
  have hrt : root < ss.length := by have := hF.rt; omega
  have HF := Lib.hid hF
  have hb0 : Below w.heap.size w (w.alloc (.cells #[.slice sa ss.length sc, .slice ea es.length ec, .int .i64 root] 32)) := (Below.refl _ _).alloc (Nat.le_refl _) _
  have HQ := Lib.hid (heap_alloc_new w (.cells #[.slice sa ss.length sc, .slice ea es.length ec, .int .i64 root] 32))
  have HB := Lib.hid hb0
  have HH := Lib.hid (h.below hb0)
  clear hel hsl hee hse hSs hSe hSr hF h hb0 hS
  go_enter Tryz.func12, Tryz.ntmps12
  go_upto_region 1 with (fail)
  generalize w.alloc (.cells #[.slice sa ss.length sc, .slice ea es.length ec, .int .i64 root] 32) = W0 at *
  obtain ⟨_, z0, z1, z2, _⟩ := blk3 HQ.out
  go_wp2_with fail
  go_loopw [3, 4] (fun s i wr => wr = W0 ∧ EnumsAt S.enums s i) (fun _ i _ => es.length - (intOf i).toNat)
  case atStart => exact ⟨rfl, 0, Nat.zero_le _, rfl, rfl⟩
  case round =>
    obtain ⟨hw, i, hi, rfl, rfl⟩ := hrel
    obtain rfl : W0 = wr := hw.symm
    clear hw
    rw [HEL.out] at hi
    have hts := textEnums_size HF.out ⟨#[]⟩ (S.enums.take i) (fun c hc => List.mem_of_mem_take hc)
    rw [List.length_take, show (⟨#[]⟩ : ByteArray).size = 0 from rfl] at hts
    generalize ht : textEnums ⟨#[]⟩ (S.enums.take i) = T at *
    have HT := Lib.hid ht
    have hT : T.size ≤ 1100000 := by omega
    clear ht hts
    by_cases hlt : i < es.length
    · obtain ⟨g, c, a, m, hv, hc, hg, x0, x1, he⟩ := HH.out.enum i hlt
      obtain ⟨rfl, rfl⟩ := slice_inj hv
      have hmem : es[i].1 ∈ S.enums := by rw [HSN.out]; exact List.mem_map.2 ⟨_, List.getElem_mem hlt, rfl⟩
      obtain ⟨e1, e2, e3⟩ := HF.out.en _ hmem
      have HE3 := Lib.hid e3
      have HNM := Lib.hid (HH.out.name i hlt)
      have HX := Lib.hid (HEE.out i hlt)
      rw [he] at HNM
      clear e3 hv he hmem
      generalize es[i] = q at *
      obtain ⟨c0, qv⟩ := q
      simp only at *
      have q1 : ¬ 9223372036854775807 < T.size + 5 := by omega
      have q2 : ¬ 9223372036854775807 < T.size + 5 + c0.name.size := by omega
      have q3 : ¬ 9223372036854775807 < T.size + 5 + c0.name.size + 2 := by omega
      have ht1 : (T ++ ⟨#[101, 110, 117, 109, 32]⟩ ++ c0.name ++ ⟨#[32, 123]⟩).size = T.size + 5 + c0.name.size + 2 := by rw [ByteArray.size_append, ByteArray.size_append, ByteArray.size_append]; rfl
      go_upto_region 6 with (fail)
      clear q1 q2 q3
      obtain ⟨T1, hT1⟩ : ∃ T1, T ++ ⟨#[101, 110, 117, 109, 32]⟩ ++ c0.name ++ ⟨#[32, 123]⟩ = T1 := ⟨_, rfl⟩
      rw [hT1] at ht1 ⊢
      have HT1 := Lib.hid hT1
      clear hT1
      go_wp2_with fail
      go_loopw [3, 5] (fun s k wq => wq = W0 ∧ ValsAt T1 c0.names s k) (fun _ k _ => c0.names.length - (intOf k).toNat)
      case atStart => exact ⟨rfl, 0, Nat.zero_le _, rfl, rfl⟩
      case round =>
        obtain ⟨hw, j, hj, rfl, rfl⟩ := hrel
        obtain rfl : W0 = wr := hw.symm
        clear hw
        have hvs := textVals_size T1 (c0.names.take j) (fun n hn => HE3.out n (List.mem_of_mem_take hn))
        rw [List.length_take] at hvs
        generalize ht : textVals T1 (c0.names.take j) = T2 at *
        have HT2 := Lib.hid ht
        have hT2 : T2.size ≤ 1200000 := by omega
        clear ht hvs
        by_cases hjl : j < c0.names.length
        · obtain ⟨g2, c2, he2, hc2, hg2, x2⟩ := HNM.out j hjl
          obtain ⟨rfl, rfl⟩ := slice_inj he2
          have e4 := HE3.out _ (List.getElem_mem hjl)
          have HY := Lib.hid (List.getElem?_eq_getElem hjl)
          generalize c0.names[j] = nm at *
          have q1 : ¬ 9223372036854775807 < T2.size + nm.size := by omega
          have q2 : ¬ 9223372036854775807 < T2.size + nm.size + 1 := by omega
          clear he2
          go_wp2
          go_roundw
          case rel => exact ⟨trivial, j + 1, hjl, by go_num, by rw [← HT2.out]; exact congrArg Value.string (fold_take (fun t n => t ++ n ++ ⟨#[44]⟩) T1 c0.names j nm HY.out).symm⟩
          case measure => simp [intOf]; omega
        · obtain rfl : j = c0.names.length := by omega
          have q1 : ¬ 9223372036854775807 < T2.size + 2 := by omega
          rw [List.take_length] at HT2
          clear hjl
          go_wp2
          go_roundw
          case rel => exact ⟨trivial, i + 1, by rw [HEL.out]; exact hlt, by go_num, by
            refine congrArg Value.string ((fold_take _ _ _ _ _ HX.out).trans ?_).symm
            rw [show (S.enums.take i).foldl textEnum ⟨#[]⟩ = T from HT.out]
            unfold textEnum
            rw [HT1.out, HT2.out]⟩
          case measure => simp [intOf]; omega
    · obtain rfl : i = es.length := by omega
      rw [← HEL.out, List.take_length] at HT
      clear hlt
      go_upto_region 11 with (fail)
      go_wp2_with fail
      go_loopw [3, 6] (fun s i wq => Below W0.heap.size W0 wq ∧ RecsAt S T s i) (fun _ i _ => ss.length - (intOf i).toNat)
      case atStart => exact ⟨Below.refl _ _, 0, Nat.zero_le _, rfl, rfl⟩
      case round =>
        obtain ⟨hb, i, hi, rfl, rfl⟩ := hrel
        rw [HSL.out] at hi
        have hts := textRecs_size HF.out T (S.structs.take i) (fun c hc => List.mem_of_mem_take hc)
        rw [List.length_take] at hts
        generalize ht : textRecs S T (S.structs.take i) = T2 at *
        have HT2 := Lib.hid ht
        have hT2 : T2.size ≤ 6000000 := by omega
        have HBW := Lib.hid hb
        have hbz : W0.heap.size ≤ wr.heap.size := hb.size
        clear ht hts z0 z1 z2 hb
        obtain ⟨_, z0, z1, z2, _⟩ := blk3 (blk_below HQ.out HBW.out (blk_lt HQ.out))
        by_cases hlt : i < ss.length
        · obtain ⟨g, c, a, m, hv, hc, hg, x0, x1, he⟩ := (HH.out.below HBW.out).strct i hlt
          obtain ⟨rfl, rfl⟩ := slice_inj hv
          have hmem : ss[i].1 ∈ S.structs := by rw [HSS.out]; exact List.mem_map.2 ⟨_, List.getElem_mem hlt, rfl⟩
          obtain ⟨e1, e2⟩ := HF.out.sn _ hmem
          have HME := Lib.hid hmem
          have HNM := Lib.hid (fun (W : World) (hb : Below W0.heap.size W0 W) => (HH.out.below hb).field i hlt)
          have HX := Lib.hid (HSE.out i hlt)
          rw [he] at HNM
          clear hv he hmem
          generalize ss[i] = q at *
          obtain ⟨c0, qv⟩ := q
          simp only at *
          have q1 : ¬ 9223372036854775807 < T2.size + 7 := by omega
          have q2 : ¬ 9223372036854775807 < T2.size + 7 + c0.name.size := by omega
          have q3 : ¬ 9223372036854775807 < T2.size + 7 + c0.name.size + 3 := by omega
          have ht1 : (T2 ++ ⟨#[115, 116, 114, 117, 99, 116, 32]⟩ ++ c0.name ++ ⟨#[32, 123, 10]⟩).size = T2.size + 7 + c0.name.size + 3 := by rw [ByteArray.size_append, ByteArray.size_append, ByteArray.size_append]; rfl
          go_upto_region 15 with (fail)
          clear q1 q2 q3
          obtain ⟨T1, hT1⟩ : ∃ T1, T2 ++ ⟨#[115, 116, 114, 117, 99, 116, 32]⟩ ++ c0.name ++ ⟨#[32, 123, 10]⟩ = T1 := ⟨_, rfl⟩
          rw [hT1] at ht1 ⊢
          have HT1 := Lib.hid hT1
          clear hT1
          go_wp2_with fail
          have HX1 := Lib.hid x1
          have HQ1 := Lib.hid (blk_below HQ.out HBW.out (blk_lt HQ.out))
          have HG := Lib.hid hg
          clear x0 x1 z0 z1 z2
          generalize wr = W1 at *
          go_loopw [3, 7] (fun s k wq => Below W1.heap.size W1 wq ∧ FieldsIn S T1 c0.fields s k) (fun _ k _ => c0.fields.length - (intOf k).toNat)
          case atStart => exact ⟨Below.refl _ _, 0, Nat.zero_le _, rfl, rfl⟩
          case round =>
            obtain ⟨hb, j, hj, rfl, rfl⟩ := hrel
            have hvs := textFields_size HF.out HME.out T1 (c0.fields.take j) (fun n hn => List.mem_of_mem_take hn)
            rw [List.length_take] at hvs
            generalize ht : textFields S T1 (c0.fields.take j) = T3 at *
            have HT3 := Lib.hid ht
            have hT3 : T3.size ≤ 6100000 := by omega
            have HB1 := Lib.hid hb
            have HBW0 := Lib.hid (HBW.out.trans (hb.mono HBW.out.size))
            have x1 := (hb.cell (p := ⟨g, i * 2 + 1, none⟩) HG.out).trans HX1.out
            have HQ2 := Lib.hid (blk_below HQ1.out hb (blk_lt HQ1.out))
            obtain ⟨_, z0, z1, z2, _⟩ := blk3 HQ2.out
            clear ht hvs hb
            by_cases hjl : j < c0.fields.length
            · obtain ⟨g2, c2, he2, hc2, hg2, y0, y1, y2, y3, y4⟩ := HNM.out wr HBW0.out j hjl
              obtain ⟨rfl, rfl⟩ := slice_inj he2
              have HY := Lib.hid (List.getElem?_eq_getElem hjl)
              have hmf : c0.fields[j] ∈ c0.fields := List.getElem_mem hjl
              obtain ⟨l1, l2, l3, l4, l5, l6, l7⟩ := HF.out.fl _ HME.out _ hmf
              have hTB := tyBase_of HF.out HME.out hmf
              have hbs := tyBaseS_size HF.out HME.out hmf
              have HDS := Lib.hid (defS_size HF.out HME.out hmf)
              have HL5 := Lib.hid l5
              have HL6 := Lib.hid l6
              clear he2 hmf l5 l6 l7
              generalize c0.fields[j] = f at *
              have HWD : Hid (∀ W, Below wr.heap.size wr W → Calls Tryz.prog 26 #[.agg #[.slice (some ⟨g, 0, none⟩) ss.length sc, .slice ea es.length ec, .int .i64 root], .agg #[.int .u8 f.kind, .int .i64 f.ref, .int .i64 f.lists]] W (WordPost (tyBaseS S.structs S.enums f.kind f.ref) f.lists W)) := Lib.hid (fun W hb => hword_any f.kind f.ref f.lists root W ((HH.out.below HBW0.out).below hb) _ (by rw [HSS.out, HSN.out] at hTB; rw [HSS.out, HSN.out]; exact hTB) l2 (by omega))
              have HDF : Hid (f.dflt ≠ 0 → ∀ W, Below wr.heap.size wr W → Calls Tryz.prog 27 #[.agg #[.slice (some ⟨g, 0, none⟩) ss.length sc, .slice ea es.length ec, .int .i64 root], .agg #[.string f.name, .int .u8 f.kind, .int .i64 f.ref, .int .i64 f.lists, .int .u64 f.dflt]] W (StrIs (DefIs S.enums f.kind f.ref f.dflt) W)) := Lib.hid (fun h0 W hb => by
                rw [HSN.out]
                exact def_any f.name f.kind f.ref f.lists f.dflt root W ((HH.out.below HBW0.out).below hb) (by omega) (fun h10 => by rw [← HSN.out]; exact ⟨(HL6.out h10).choose, (HL6.out h10).choose_spec h0⟩) HL5.out)
              have hws := wordS_size (tyBaseS S.structs S.enums f.kind f.ref) f.lists
              have hlw : (wordS (tyBaseS S.structs S.enums f.kind f.ref) f.lists).size ≤ 118 := by omega
              clear hws hTB hbs
              obtain ⟨WS, hWS⟩ : ∃ WS, wordS (tyBaseS S.structs S.enums f.kind f.ref) f.lists = WS := ⟨_, rfl⟩
              have HWS := Lib.hid hWS
              rw [hWS] at hlw
              clear hWS
              go_upto_region 19 with (fail)
              have hbf : Below wr.heap.size wr (wr.alloc (.cells #[.string f.name, .int .u8 f.kind, .int .i64 f.ref, .int .i64 f.lists, .int .u64 f.dflt] 55)) := (Below.refl _ _).alloc (Nat.le_refl _) _
              have hfb := heap_alloc_new wr (.cells #[.string f.name, .int .u8 f.kind, .int .i64 f.ref, .int .i64 f.lists, .int .u64 f.dflt] 55)
              have hz := blk_below HQ2.out hbf (blk_lt HQ2.out)
              have HBF := Lib.hid hbf
              have HFB := Lib.hid hfb
              have HQ3 := Lib.hid hz
              clear y0 y1 y2 y3 y4 z0 z1 z2 x1 hbf hfb hz
              generalize wr.alloc (.cells #[.string f.name, .int .u8 f.kind, .int .i64 f.ref, .int .i64 f.lists, .int .u64 f.dflt] 55) = W2 at *
              obtain ⟨hzl, z0, z1, z2, _⟩ := blk3 HQ3.out
              have hfl : wr.heap.size < W2.heap.size := blk_lt HFB.out
              have f0 := (blk_cell HFB.out 0).trans rfl
              have f1 := (blk_cell HFB.out 1).trans rfl
              have f2 := (blk_cell HFB.out 2).trans rfl
              have f3 := (blk_cell HFB.out 3).trans rfl
              have q1 : ¬ 9223372036854775807 < T3.size + 1 := by omega
              have q2 : ¬ 9223372036854775807 < T3.size + 1 + f.name.size := by omega
              have q3 : ¬ 9223372036854775807 < T3.size + 1 + f.name.size + 3 := by omega
              have q4 : ¬ 9223372036854775807 < T3.size + 1 + f.name.size + 3 + WS.size := by omega
              have HBWR := Lib.hid HBF.out
              have hbs0 : w.heap.size < W2.heap.size := hzl
              generalize hBF : wr.heap.size = BF at *
              go_region_held3 (fun w' => w'.cell? ⟨w.heap.size, 0, none⟩ = some (.slice (some ⟨g, 0, none⟩) ss.length sc) ∧ w'.cell? ⟨w.heap.size, 1, none⟩ = some (.slice ea es.length ec) ∧ w'.cell? ⟨w.heap.size, 2, none⟩ = some (.int .i64 root) ∧ w'.cell? ⟨BF, 0, none⟩ = some (.string f.name) ∧ w'.cell? ⟨BF, 1, none⟩ = some (.int .u8 f.kind) ∧ w'.cell? ⟨BF, 2, none⟩ = some (.int .i64 f.ref) ∧ w'.cell? ⟨BF, 3, none⟩ = some (.int .i64 f.lists)) (first | assumption | go_keep)
                (first | (go_at_call 26; refine (HWD.out _ (by first | exact HBF.out | exact HBF.out.drew)).mono ?_; rintro e W3 ⟨rfl, hb3⟩; rw [HWS.out]; have k0 : W3.cell? ⟨w.heap.size, 0, none⟩ = some (.slice (some ⟨g, 0, none⟩) ss.length sc) := (hb3.cell (p := ⟨w.heap.size, 0, none⟩) hbs0).trans z0; have k1 : W3.cell? ⟨w.heap.size, 1, none⟩ = some (.slice ea es.length ec) := (hb3.cell (p := ⟨w.heap.size, 1, none⟩) hbs0).trans z1; have k2 : W3.cell? ⟨w.heap.size, 2, none⟩ = some (.int .i64 root) := (hb3.cell (p := ⟨w.heap.size, 2, none⟩) hbs0).trans z2; have k3 : W3.cell? ⟨BF, 0, none⟩ = some (.string f.name) := (hb3.cell (p := ⟨BF, 0, none⟩) hfl).trans f0; have k4 : W3.cell? ⟨BF, 1, none⟩ = some (.int .u8 f.kind) := (hb3.cell (p := ⟨BF, 1, none⟩) hfl).trans f1; have k5 : W3.cell? ⟨BF, 2, none⟩ = some (.int .i64 f.ref) := (hb3.cell (p := ⟨BF, 2, none⟩) hfl).trans f2; have k6 : W3.cell? ⟨BF, 3, none⟩ = some (.int .i64 f.lists) := (hb3.cell (p := ⟨BF, 3, none⟩) hfl).trans f3))
              all_goals
                go_upto_region 20 with (fail)
                have hb3' : Below W2.heap.size W2 W3 := by first | exact hb3 | exact (Below.refl _ _).drew.trans hb3
                have f4 := (blk_cell (blk_below HFB.out hb3' hfl) 4).trans rfl
                have HB3 := Lib.hid (HBF.out.trans (hb3'.mono (by rw [← hBF]; exact HBF.out.size)))
                have hfl3 : BF < W3.heap.size := Nat.lt_of_lt_of_le hfl hb3'.size
                have HHF := Lib.hid (blk_below HFB.out hb3' hfl)
                have HHQ := Lib.hid (blk_below HQ3.out hb3' hzl)
                clear hb3 hb3' z0 z1 z2 f0 f1 f2 f3 q1 q2 q3 q4
                have hT4 : (T3 ++ ⟨#[34]⟩ ++ f.name ++ ⟨#[34, 58, 32]⟩ ++ WS).size = T3.size + 1 + f.name.size + 3 + WS.size := by simp only [ByteArray.size_append]; rfl
                obtain ⟨T4, hT4e⟩ : ∃ T4, T3 ++ ⟨#[34]⟩ ++ f.name ++ ⟨#[34, 58, 32]⟩ ++ WS = T4 := ⟨_, rfl⟩
                rw [hT4e] at hT4 ⊢
                have HT4 := Lib.hid hT4e
                clear hT4e
                by_cases hd : f.dflt = 0
                · have HD := Lib.hid hd
                  have k8 : ((f.dflt : Int) != 0) = false := by simp; omega
                  have q1 : ¬ 9223372036854775807 < T4.size + 2 := by omega
                  clear hd
                  go_wp2
                  go_roundw
                  case rel => exact ⟨by first | exact HB1.out.trans (HB3.out.mono (by rw [← hBF]; exact HB1.out.size)) | exact (HB1.out.trans (HB3.out.mono (by rw [← hBF]; exact HB1.out.size))).drew, j + 1, hjl, by go_num, by
                    refine congrArg Value.string ((fold_take _ _ _ _ _ HY.out).trans ?_).symm
                    rw [show (c0.fields.take j).foldl (textField S) T1 = T3 from HT3.out]
                    unfold textField
                    rw [if_neg (by simp [HD.out]), HWS.out, HT4.out]⟩
                  case measure => simp [intOf]; omega
                · have HD := Lib.hid hd
                  have k8 : ((f.dflt : Int) != 0) = true := by simp; omega
                  have q1 : ¬ 9223372036854775807 < T4.size + 3 := by omega
                  clear hd
                  obtain ⟨_, z0, z1, z2, _⟩ := blk3 HHQ.out
                  have f0 := (blk_cell HHF.out 0).trans rfl
                  have f1 := (blk_cell HHF.out 1).trans rfl
                  have f2 := (blk_cell HHF.out 2).trans rfl
                  have f3 := (blk_cell HHF.out 3).trans rfl
                  go_wp2_with fail
                  refine (HDF.out HD.out _ HB3.out).mono ?_
                  rintro e W4 ⟨D, rfl, hD, hb4⟩
                  have HDD := Lib.hid (defS_of hD)
                  have hDl : D.size ≤ 100 := by rw [HDD.out]; exact HDS.out
                  have HB4 := Lib.hid (HB3.out.trans (hb4.mono (by rw [← hBF]; exact HB3.out.size)))
                  have q2 : ¬ 9223372036854775807 < T4.size + 3 + D.size := by omega
                  have q3 : ¬ 9223372036854775807 < T4.size + 3 + D.size + 2 := by omega
                  clear hD hb4 z0 z1 z2 f0 f1 f2 f3 f4
                  go_wp2
                  go_roundw
                  case rel => exact ⟨HB1.out.trans (HB4.out.mono (by rw [← hBF]; exact HB1.out.size)), j + 1, hjl, by go_num, by
                    refine congrArg Value.string ((fold_take _ _ _ _ _ HY.out).trans ?_).symm
                    rw [show (c0.fields.take j).foldl (textField S) T1 = T3 from HT3.out]
                    unfold textField
                    rw [if_pos HD.out, HWS.out, HT4.out, HDD.out]⟩
                  case measure => simp [intOf]; omega
            · obtain rfl : j = c0.fields.length := by omega
              have q1 : ¬ 9223372036854775807 < T3.size + 2 := by omega
              rw [List.take_length] at HT3
              clear hjl
              go_wp2
              go_roundw
              case rel => exact ⟨HBW0.out, i + 1, by rw [HSL.out]; exact hlt, by go_num, by
                refine congrArg Value.string ((fold_take _ _ _ _ _ HX.out).trans ?_).symm
                rw [show (S.structs.take i).foldl (textRec S) T = T2 from HT2.out]
                unfold textRec
                rw [HT1.out, HT3.out]⟩
              case measure => simp [intOf]; omega
        · obtain rfl : i = ss.length := by omega
          rw [← HSL.out, List.take_length] at HT2
          clear hlt
          obtain ⟨g, c, a, m, hv, hc, hg, x0, x1, he⟩ := (HH.out.below HBW.out).strct root hrt
          obtain ⟨rfl, rfl⟩ := slice_inj hv
          have hmem : ss[root].1 ∈ S.structs := by rw [HSS.out]; exact List.mem_map.2 ⟨_, List.getElem_mem hrt, rfl⟩
          obtain ⟨e1, e2⟩ := HF.out.sn _ hmem
          have HX := Lib.hid (HSE.out root hrt)
          clear x1 hv he hmem
          generalize ss[root] = q at *
          obtain ⟨c0, qv⟩ := q
          simp only at *
          have q1 : ¬ 9223372036854775807 < T2.size + 5 := by omega
          have q2 : ¬ 9223372036854775807 < T2.size + 5 + c0.name.size := by omega
          have q3 : ¬ 9223372036854775807 < T2.size + 5 + c0.name.size + 2 := by omega
          go_wp2
          go_ret
          refine ⟨?_, HB.out.trans (HBW.out.mono HB.out.size)⟩
          unfold textS
          rw [HT.out, HT2.out, HSR.out, List.getD, HX.out]
          rfl
end Go.Proofs.YtleclhnlojalbaaGreatDoor
namespace Go.Proofs.YtleclhnlojalbaaGreatDoor
open Go.ChangeShapes Go.WideShapes Go.ChangeAt Go.RowKit

def loopsOf : Code → List Code
  | .loop c => c :: loopsOf c
  | .seq a b => loopsOf a ++ loopsOf b
  | .block _ c => loopsOf c
  | .scope c => loopsOf c
  | .cond _ a b => loopsOf a ++ loopsOf b
  | _ => []
noncomputable def madeLoop (n : Nat) : Code := ((Tryz.f11.body.map loopsOf).getD []).getD n .skip
theorem arr_lit (t : Array Value) (h : t.size = 241) : t = ((List.range 241).map fun n => t.getD n undef).toArray := by
  apply Array.ext'
  apply List.ext_getElem?
  intro i
  by_cases hi : i < 241
  · have h' : i < t.size := by omega
    simp [hi, h', Array.getD]
  · have h' : ¬ i < t.size := by omega
    simp [hi, h']
set_option maxRecDepth 100000 in
theorem lit_all (u : Nat → Value) : ((List.range 241).map u).toArray = #[u 0, u 1, u 2, u 3, u 4, u 5, u 6, u 7, u 8, u 9, u 10, u 11, u 12, u 13, u 14, u 15, u 16, u 17, u 18, u 19, u 20, u 21, u 22, u 23, u 24, u 25, u 26, u 27, u 28, u 29, u 30, u 31, u 32, u 33, u 34, u 35, u 36, u 37, u 38, u 39, u 40, u 41, u 42, u 43, u 44, u 45, u 46, u 47, u 48, u 49, u 50, u 51, u 52, u 53, u 54, u 55, u 56, u 57, u 58, u 59, u 60, u 61, u 62, u 63, u 64, u 65, u 66, u 67, u 68, u 69, u 70, u 71, u 72, u 73, u 74, u 75, u 76, u 77, u 78, u 79, u 80, u 81, u 82, u 83, u 84, u 85, u 86, u 87, u 88, u 89, u 90, u 91, u 92, u 93, u 94, u 95, u 96, u 97, u 98, u 99, u 100, u 101, u 102, u 103, u 104, u 105, u 106, u 107, u 108, u 109, u 110, u 111, u 112, u 113, u 114, u 115, u 116, u 117, u 118, u 119, u 120, u 121, u 122, u 123, u 124, u 125, u 126, u 127, u 128, u 129, u 130, u 131, u 132, u 133, u 134, u 135, u 136, u 137, u 138, u 139, u 140, u 141, u 142, u 143, u 144, u 145, u 146, u 147, u 148, u 149, u 150, u 151, u 152, u 153, u 154, u 155, u 156, u 157, u 158, u 159, u 160, u 161, u 162, u 163, u 164, u 165, u 166, u 167, u 168, u 169, u 170, u 171, u 172, u 173, u 174, u 175, u 176, u 177, u 178, u 179, u 180, u 181, u 182, u 183, u 184, u 185, u 186, u 187, u 188, u 189, u 190, u 191, u 192, u 193, u 194, u 195, u 196, u 197, u 198, u 199, u 200, u 201, u 202, u 203, u 204, u 205, u 206, u 207, u 208, u 209, u 210, u 211, u 212, u 213, u 214, u 215, u 216, u 217, u 218, u 219, u 220, u 221, u 222, u 223, u 224, u 225, u 226, u 227, u 228, u 229, u 230, u 231, u 232, u 233, u 234, u 235, u 236, u 237, u 238, u 239, u 240] := rfl
structure FrA (b i : Nat) (c : Act) : Prop where
  df : c.defers = []
  sz : c.tmps.size = 241
  s1 : c.tmps.getD 1 undef = .pointer (some ⟨b, 0, none⟩)
  s2 : c.tmps.getD 2 undef = .pointer (some ⟨b + 1, 0, none⟩)
  s3 : c.tmps.getD 3 undef = .bool false
  s4 : c.tmps.getD 4 undef = .pointer (some ⟨b + 2, 0, none⟩)
  s5 : c.tmps.getD 5 undef = .int .i64 i
set_option maxRecDepth 100000 in
theorem fra_lit {b i : Nat} {c : Act} (h : FrA b i c) : ∃ u : Nat → Value, c = ⟨#[u 0, .pointer (some ⟨b, 0, none⟩), .pointer (some ⟨b + 1, 0, none⟩), .bool false, .pointer (some ⟨b + 2, 0, none⟩), .int .i64 i, u 6, u 7, u 8, u 9, u 10, u 11, u 12, u 13, u 14, u 15, u 16, u 17, u 18, u 19, u 20, u 21, u 22, u 23, u 24, u 25, u 26, u 27, u 28, u 29, u 30, u 31, u 32, u 33, u 34, u 35, u 36, u 37, u 38, u 39, u 40, u 41, u 42, u 43, u 44, u 45, u 46, u 47, u 48, u 49, u 50, u 51, u 52, u 53, u 54, u 55, u 56, u 57, u 58, u 59, u 60, u 61, u 62, u 63, u 64, u 65, u 66, u 67, u 68, u 69, u 70, u 71, u 72, u 73, u 74, u 75, u 76, u 77, u 78, u 79, u 80, u 81, u 82, u 83, u 84, u 85, u 86, u 87, u 88, u 89, u 90, u 91, u 92, u 93, u 94, u 95, u 96, u 97, u 98, u 99, u 100, u 101, u 102, u 103, u 104, u 105, u 106, u 107, u 108, u 109, u 110, u 111, u 112, u 113, u 114, u 115, u 116, u 117, u 118, u 119, u 120, u 121, u 122, u 123, u 124, u 125, u 126, u 127, u 128, u 129, u 130, u 131, u 132, u 133, u 134, u 135, u 136, u 137, u 138, u 139, u 140, u 141, u 142, u 143, u 144, u 145, u 146, u 147, u 148, u 149, u 150, u 151, u 152, u 153, u 154, u 155, u 156, u 157, u 158, u 159, u 160, u 161, u 162, u 163, u 164, u 165, u 166, u 167, u 168, u 169, u 170, u 171, u 172, u 173, u 174, u 175, u 176, u 177, u 178, u 179, u 180, u 181, u 182, u 183, u 184, u 185, u 186, u 187, u 188, u 189, u 190, u 191, u 192, u 193, u 194, u 195, u 196, u 197, u 198, u 199, u 200, u 201, u 202, u 203, u 204, u 205, u 206, u 207, u 208, u 209, u 210, u 211, u 212, u 213, u 214, u 215, u 216, u 217, u 218, u 219, u 220, u 221, u 222, u 223, u 224, u 225, u 226, u 227, u 228, u 229, u 230, u 231, u 232, u 233, u 234, u 235, u 236, u 237, u 238, u 239, u 240], []⟩ := by
  obtain ⟨hd, hs, h1, h2, h3, h4, h5⟩ := h
  refine ⟨fun n => c.tmps.getD n undef, ?_⟩
  obtain ⟨t, d⟩ := c
  simp only at hd hs h1 h2 h3 h4 h5 ⊢
  subst hd
  congr 1
  refine (arr_lit t hs).trans ?_
  rw [lit_all]
  simp only [h1, h2, h3, h4, h5]
structure FrB (b i C k : Nat) (c : Act) : Prop where
  df : c.defers = []
  sz : c.tmps.size = 241
  s1 : c.tmps.getD 1 undef = .pointer (some ⟨b, 0, none⟩)
  s2 : c.tmps.getD 2 undef = .pointer (some ⟨b + 1, 0, none⟩)
  s3 : c.tmps.getD 3 undef = .bool false
  s4 : c.tmps.getD 4 undef = .pointer (some ⟨b + 2, 0, none⟩)
  s5 : c.tmps.getD 5 undef = .int .i64 i
  s6 : c.tmps.getD 6 undef = .pointer (some ⟨C, 0, none⟩)
  s7 : c.tmps.getD 7 undef = .int .i64 k
set_option maxRecDepth 100000 in
theorem frb_lit {b i C k : Nat} {c : Act} (h : FrB b i C k c) : ∃ u : Nat → Value, c = ⟨#[u 0, .pointer (some ⟨b, 0, none⟩), .pointer (some ⟨b + 1, 0, none⟩), .bool false, .pointer (some ⟨b + 2, 0, none⟩), .int .i64 i, .pointer (some ⟨C, 0, none⟩), .int .i64 k, u 8, u 9, u 10, u 11, u 12, u 13, u 14, u 15, u 16, u 17, u 18, u 19, u 20, u 21, u 22, u 23, u 24, u 25, u 26, u 27, u 28, u 29, u 30, u 31, u 32, u 33, u 34, u 35, u 36, u 37, u 38, u 39, u 40, u 41, u 42, u 43, u 44, u 45, u 46, u 47, u 48, u 49, u 50, u 51, u 52, u 53, u 54, u 55, u 56, u 57, u 58, u 59, u 60, u 61, u 62, u 63, u 64, u 65, u 66, u 67, u 68, u 69, u 70, u 71, u 72, u 73, u 74, u 75, u 76, u 77, u 78, u 79, u 80, u 81, u 82, u 83, u 84, u 85, u 86, u 87, u 88, u 89, u 90, u 91, u 92, u 93, u 94, u 95, u 96, u 97, u 98, u 99, u 100, u 101, u 102, u 103, u 104, u 105, u 106, u 107, u 108, u 109, u 110, u 111, u 112, u 113, u 114, u 115, u 116, u 117, u 118, u 119, u 120, u 121, u 122, u 123, u 124, u 125, u 126, u 127, u 128, u 129, u 130, u 131, u 132, u 133, u 134, u 135, u 136, u 137, u 138, u 139, u 140, u 141, u 142, u 143, u 144, u 145, u 146, u 147, u 148, u 149, u 150, u 151, u 152, u 153, u 154, u 155, u 156, u 157, u 158, u 159, u 160, u 161, u 162, u 163, u 164, u 165, u 166, u 167, u 168, u 169, u 170, u 171, u 172, u 173, u 174, u 175, u 176, u 177, u 178, u 179, u 180, u 181, u 182, u 183, u 184, u 185, u 186, u 187, u 188, u 189, u 190, u 191, u 192, u 193, u 194, u 195, u 196, u 197, u 198, u 199, u 200, u 201, u 202, u 203, u 204, u 205, u 206, u 207, u 208, u 209, u 210, u 211, u 212, u 213, u 214, u 215, u 216, u 217, u 218, u 219, u 220, u 221, u 222, u 223, u 224, u 225, u 226, u 227, u 228, u 229, u 230, u 231, u 232, u 233, u 234, u 235, u 236, u 237, u 238, u 239, u 240], []⟩ := by
  obtain ⟨hd, hs, h1, h2, h3, h4, h5, h6, h7⟩ := h
  refine ⟨fun n => c.tmps.getD n undef, ?_⟩
  obtain ⟨t, d⟩ := c
  simp only at hd hs h1 h2 h3 h4 h5 h6 h7 ⊢
  subst hd
  congr 1
  refine (arr_lit t hs).trans ?_
  rw [lit_all]
  simp only [h1, h2, h3, h4, h5, h6, h7]
structure FrC (b i : Nat) (c : Act) : Prop where
  df : c.defers = []
  sz : c.tmps.size = 241
  s1 : c.tmps.getD 1 undef = .pointer (some ⟨b, 0, none⟩)
  s2 : c.tmps.getD 2 undef = .pointer (some ⟨b + 1, 0, none⟩)
  s3 : c.tmps.getD 3 undef = .bool false
  s4 : c.tmps.getD 4 undef = .pointer (some ⟨b + 2, 0, none⟩)
  s8 : c.tmps.getD 8 undef = .int .i64 i
set_option maxRecDepth 100000 in
theorem frc_lit {b i : Nat} {c : Act} (h : FrC b i c) : ∃ u : Nat → Value, c = ⟨#[u 0, .pointer (some ⟨b, 0, none⟩), .pointer (some ⟨b + 1, 0, none⟩), .bool false, .pointer (some ⟨b + 2, 0, none⟩), u 5, u 6, u 7, .int .i64 i, u 9, u 10, u 11, u 12, u 13, u 14, u 15, u 16, u 17, u 18, u 19, u 20, u 21, u 22, u 23, u 24, u 25, u 26, u 27, u 28, u 29, u 30, u 31, u 32, u 33, u 34, u 35, u 36, u 37, u 38, u 39, u 40, u 41, u 42, u 43, u 44, u 45, u 46, u 47, u 48, u 49, u 50, u 51, u 52, u 53, u 54, u 55, u 56, u 57, u 58, u 59, u 60, u 61, u 62, u 63, u 64, u 65, u 66, u 67, u 68, u 69, u 70, u 71, u 72, u 73, u 74, u 75, u 76, u 77, u 78, u 79, u 80, u 81, u 82, u 83, u 84, u 85, u 86, u 87, u 88, u 89, u 90, u 91, u 92, u 93, u 94, u 95, u 96, u 97, u 98, u 99, u 100, u 101, u 102, u 103, u 104, u 105, u 106, u 107, u 108, u 109, u 110, u 111, u 112, u 113, u 114, u 115, u 116, u 117, u 118, u 119, u 120, u 121, u 122, u 123, u 124, u 125, u 126, u 127, u 128, u 129, u 130, u 131, u 132, u 133, u 134, u 135, u 136, u 137, u 138, u 139, u 140, u 141, u 142, u 143, u 144, u 145, u 146, u 147, u 148, u 149, u 150, u 151, u 152, u 153, u 154, u 155, u 156, u 157, u 158, u 159, u 160, u 161, u 162, u 163, u 164, u 165, u 166, u 167, u 168, u 169, u 170, u 171, u 172, u 173, u 174, u 175, u 176, u 177, u 178, u 179, u 180, u 181, u 182, u 183, u 184, u 185, u 186, u 187, u 188, u 189, u 190, u 191, u 192, u 193, u 194, u 195, u 196, u 197, u 198, u 199, u 200, u 201, u 202, u 203, u 204, u 205, u 206, u 207, u 208, u 209, u 210, u 211, u 212, u 213, u 214, u 215, u 216, u 217, u 218, u 219, u 220, u 221, u 222, u 223, u 224, u 225, u 226, u 227, u 228, u 229, u 230, u 231, u 232, u 233, u 234, u 235, u 236, u 237, u 238, u 239, u 240], []⟩ := by
  obtain ⟨hd, hs, h1, h2, h3, h4, h8⟩ := h
  refine ⟨fun n => c.tmps.getD n undef, ?_⟩
  obtain ⟨t, d⟩ := c
  simp only at hd hs h1 h2 h3 h4 h8 ⊢
  subst hd
  congr 1
  refine (arr_lit t hs).trans ?_
  rw [lit_all]
  simp only [h1, h2, h3, h4, h8]
structure FrD (b i : Nat) (a : Option Addr) (n c0 R k : Nat) (c : Act) : Prop where
  df : c.defers = []
  sz : c.tmps.size = 241
  s1 : c.tmps.getD 1 undef = .pointer (some ⟨b, 0, none⟩)
  s2 : c.tmps.getD 2 undef = .pointer (some ⟨b + 1, 0, none⟩)
  s3 : c.tmps.getD 3 undef = .bool false
  s4 : c.tmps.getD 4 undef = .pointer (some ⟨b + 2, 0, none⟩)
  s8 : c.tmps.getD 8 undef = .int .i64 i
  s9 : c.tmps.getD 9 undef = .slice a n c0
  s10 : c.tmps.getD 10 undef = .pointer (some ⟨R, 0, none⟩)
  s11 : c.tmps.getD 11 undef = .int .i64 k
set_option maxRecDepth 100000 in
theorem frd_lit {b i : Nat} {a : Option Addr} {n c0 R k : Nat} {c : Act} (h : FrD b i a n c0 R k c) : ∃ u : Nat → Value, c = ⟨#[u 0, .pointer (some ⟨b, 0, none⟩), .pointer (some ⟨b + 1, 0, none⟩), .bool false, .pointer (some ⟨b + 2, 0, none⟩), u 5, u 6, u 7, .int .i64 i, .slice a n c0, .pointer (some ⟨R, 0, none⟩), .int .i64 k, u 12, u 13, u 14, u 15, u 16, u 17, u 18, u 19, u 20, u 21, u 22, u 23, u 24, u 25, u 26, u 27, u 28, u 29, u 30, u 31, u 32, u 33, u 34, u 35, u 36, u 37, u 38, u 39, u 40, u 41, u 42, u 43, u 44, u 45, u 46, u 47, u 48, u 49, u 50, u 51, u 52, u 53, u 54, u 55, u 56, u 57, u 58, u 59, u 60, u 61, u 62, u 63, u 64, u 65, u 66, u 67, u 68, u 69, u 70, u 71, u 72, u 73, u 74, u 75, u 76, u 77, u 78, u 79, u 80, u 81, u 82, u 83, u 84, u 85, u 86, u 87, u 88, u 89, u 90, u 91, u 92, u 93, u 94, u 95, u 96, u 97, u 98, u 99, u 100, u 101, u 102, u 103, u 104, u 105, u 106, u 107, u 108, u 109, u 110, u 111, u 112, u 113, u 114, u 115, u 116, u 117, u 118, u 119, u 120, u 121, u 122, u 123, u 124, u 125, u 126, u 127, u 128, u 129, u 130, u 131, u 132, u 133, u 134, u 135, u 136, u 137, u 138, u 139, u 140, u 141, u 142, u 143, u 144, u 145, u 146, u 147, u 148, u 149, u 150, u 151, u 152, u 153, u 154, u 155, u 156, u 157, u 158, u 159, u 160, u 161, u 162, u 163, u 164, u 165, u 166, u 167, u 168, u 169, u 170, u 171, u 172, u 173, u 174, u 175, u 176, u 177, u 178, u 179, u 180, u 181, u 182, u 183, u 184, u 185, u 186, u 187, u 188, u 189, u 190, u 191, u 192, u 193, u 194, u 195, u 196, u 197, u 198, u 199, u 200, u 201, u 202, u 203, u 204, u 205, u 206, u 207, u 208, u 209, u 210, u 211, u 212, u 213, u 214, u 215, u 216, u 217, u 218, u 219, u 220, u 221, u 222, u 223, u 224, u 225, u 226, u 227, u 228, u 229, u 230, u 231, u 232, u 233, u 234, u 235, u 236, u 237, u 238, u 239, u 240], []⟩ := by
  obtain ⟨hd, hs, h1, h2, h3, h4, h8, h9, h10, h11⟩ := h
  refine ⟨fun n => c.tmps.getD n undef, ?_⟩
  obtain ⟨t, d⟩ := c
  simp only at hd hs h1 h2 h3 h4 h8 h9 h10 h11 ⊢
  subst hd
  congr 1
  refine (arr_lit t hs).trans ?_
  rw [lit_all]
  simp only [h1, h2, h3, h4, h8, h9, h10, h11]
structure FrE (b i : Nat) (a : Option Addr) (n c0 R k T : Nat) (c : Act) : Prop where
  df : c.defers = []
  sz : c.tmps.size = 241
  s1 : c.tmps.getD 1 undef = .pointer (some ⟨b, 0, none⟩)
  s2 : c.tmps.getD 2 undef = .pointer (some ⟨b + 1, 0, none⟩)
  s3 : c.tmps.getD 3 undef = .bool false
  s4 : c.tmps.getD 4 undef = .pointer (some ⟨b + 2, 0, none⟩)
  s8 : c.tmps.getD 8 undef = .int .i64 i
  s9 : c.tmps.getD 9 undef = .slice a n c0
  s10 : c.tmps.getD 10 undef = .pointer (some ⟨R, 0, none⟩)
  s11 : c.tmps.getD 11 undef = .int .i64 k
  s12 : c.tmps.getD 12 undef = .pointer (some ⟨T, 0, none⟩)
set_option maxRecDepth 100000 in
theorem fre_lit {b i : Nat} {a : Option Addr} {n c0 R k T : Nat} {c : Act} (h : FrE b i a n c0 R k T c) : ∃ u : Nat → Value, c = ⟨#[u 0, .pointer (some ⟨b, 0, none⟩), .pointer (some ⟨b + 1, 0, none⟩), .bool false, .pointer (some ⟨b + 2, 0, none⟩), u 5, u 6, u 7, .int .i64 i, .slice a n c0, .pointer (some ⟨R, 0, none⟩), .int .i64 k, .pointer (some ⟨T, 0, none⟩), u 13, u 14, u 15, u 16, u 17, u 18, u 19, u 20, u 21, u 22, u 23, u 24, u 25, u 26, u 27, u 28, u 29, u 30, u 31, u 32, u 33, u 34, u 35, u 36, u 37, u 38, u 39, u 40, u 41, u 42, u 43, u 44, u 45, u 46, u 47, u 48, u 49, u 50, u 51, u 52, u 53, u 54, u 55, u 56, u 57, u 58, u 59, u 60, u 61, u 62, u 63, u 64, u 65, u 66, u 67, u 68, u 69, u 70, u 71, u 72, u 73, u 74, u 75, u 76, u 77, u 78, u 79, u 80, u 81, u 82, u 83, u 84, u 85, u 86, u 87, u 88, u 89, u 90, u 91, u 92, u 93, u 94, u 95, u 96, u 97, u 98, u 99, u 100, u 101, u 102, u 103, u 104, u 105, u 106, u 107, u 108, u 109, u 110, u 111, u 112, u 113, u 114, u 115, u 116, u 117, u 118, u 119, u 120, u 121, u 122, u 123, u 124, u 125, u 126, u 127, u 128, u 129, u 130, u 131, u 132, u 133, u 134, u 135, u 136, u 137, u 138, u 139, u 140, u 141, u 142, u 143, u 144, u 145, u 146, u 147, u 148, u 149, u 150, u 151, u 152, u 153, u 154, u 155, u 156, u 157, u 158, u 159, u 160, u 161, u 162, u 163, u 164, u 165, u 166, u 167, u 168, u 169, u 170, u 171, u 172, u 173, u 174, u 175, u 176, u 177, u 178, u 179, u 180, u 181, u 182, u 183, u 184, u 185, u 186, u 187, u 188, u 189, u 190, u 191, u 192, u 193, u 194, u 195, u 196, u 197, u 198, u 199, u 200, u 201, u 202, u 203, u 204, u 205, u 206, u 207, u 208, u 209, u 210, u 211, u 212, u 213, u 214, u 215, u 216, u 217, u 218, u 219, u 220, u 221, u 222, u 223, u 224, u 225, u 226, u 227, u 228, u 229, u 230, u 231, u 232, u 233, u 234, u 235, u 236, u 237, u 238, u 239, u 240], []⟩ := by
  obtain ⟨hd, hs, h1, h2, h3, h4, h8, h9, h10, h11, h12⟩ := h
  refine ⟨fun n => c.tmps.getD n undef, ?_⟩
  obtain ⟨t, d⟩ := c
  simp only at hd hs h1 h2 h3 h4 h8 h9 h10 h11 h12 ⊢
  subst hd
  congr 1
  refine (arr_lit t hs).trans ?_
  rw [lit_all]
  simp only [h1, h2, h3, h4, h8, h9, h10, h11, h12]
structure FrF (b i : Nat) (a : Option Addr) (n c0 R k T G : Nat) (c : Act) : Prop where
  df : c.defers = []
  sz : c.tmps.size = 241
  s1 : c.tmps.getD 1 undef = .pointer (some ⟨b, 0, none⟩)
  s2 : c.tmps.getD 2 undef = .pointer (some ⟨b + 1, 0, none⟩)
  s3 : c.tmps.getD 3 undef = .bool false
  s4 : c.tmps.getD 4 undef = .pointer (some ⟨b + 2, 0, none⟩)
  s8 : c.tmps.getD 8 undef = .int .i64 i
  s9 : c.tmps.getD 9 undef = .slice a n c0
  s10 : c.tmps.getD 10 undef = .pointer (some ⟨R, 0, none⟩)
  s11 : c.tmps.getD 11 undef = .int .i64 k
  s12 : c.tmps.getD 12 undef = .pointer (some ⟨T, 0, none⟩)
  s13 : c.tmps.getD 13 undef = .pointer (some ⟨G, 0, none⟩)
set_option maxRecDepth 100000 in
theorem frf_lit {b i : Nat} {a : Option Addr} {n c0 R k T G : Nat} {c : Act} (h : FrF b i a n c0 R k T G c) : ∃ u : Nat → Value, c = ⟨#[u 0, .pointer (some ⟨b, 0, none⟩), .pointer (some ⟨b + 1, 0, none⟩), .bool false, .pointer (some ⟨b + 2, 0, none⟩), u 5, u 6, u 7, .int .i64 i, .slice a n c0, .pointer (some ⟨R, 0, none⟩), .int .i64 k, .pointer (some ⟨T, 0, none⟩), .pointer (some ⟨G, 0, none⟩), u 14, u 15, u 16, u 17, u 18, u 19, u 20, u 21, u 22, u 23, u 24, u 25, u 26, u 27, u 28, u 29, u 30, u 31, u 32, u 33, u 34, u 35, u 36, u 37, u 38, u 39, u 40, u 41, u 42, u 43, u 44, u 45, u 46, u 47, u 48, u 49, u 50, u 51, u 52, u 53, u 54, u 55, u 56, u 57, u 58, u 59, u 60, u 61, u 62, u 63, u 64, u 65, u 66, u 67, u 68, u 69, u 70, u 71, u 72, u 73, u 74, u 75, u 76, u 77, u 78, u 79, u 80, u 81, u 82, u 83, u 84, u 85, u 86, u 87, u 88, u 89, u 90, u 91, u 92, u 93, u 94, u 95, u 96, u 97, u 98, u 99, u 100, u 101, u 102, u 103, u 104, u 105, u 106, u 107, u 108, u 109, u 110, u 111, u 112, u 113, u 114, u 115, u 116, u 117, u 118, u 119, u 120, u 121, u 122, u 123, u 124, u 125, u 126, u 127, u 128, u 129, u 130, u 131, u 132, u 133, u 134, u 135, u 136, u 137, u 138, u 139, u 140, u 141, u 142, u 143, u 144, u 145, u 146, u 147, u 148, u 149, u 150, u 151, u 152, u 153, u 154, u 155, u 156, u 157, u 158, u 159, u 160, u 161, u 162, u 163, u 164, u 165, u 166, u 167, u 168, u 169, u 170, u 171, u 172, u 173, u 174, u 175, u 176, u 177, u 178, u 179, u 180, u 181, u 182, u 183, u 184, u 185, u 186, u 187, u 188, u 189, u 190, u 191, u 192, u 193, u 194, u 195, u 196, u 197, u 198, u 199, u 200, u 201, u 202, u 203, u 204, u 205, u 206, u 207, u 208, u 209, u 210, u 211, u 212, u 213, u 214, u 215, u 216, u 217, u 218, u 219, u 220, u 221, u 222, u 223, u 224, u 225, u 226, u 227, u 228, u 229, u 230, u 231, u 232, u 233, u 234, u 235, u 236, u 237, u 238, u 239, u 240], []⟩ := by
  obtain ⟨hd, hs, h1, h2, h3, h4, h8, h9, h10, h11, h12, h13⟩ := h
  refine ⟨fun n => c.tmps.getD n undef, ?_⟩
  obtain ⟨t, d⟩ := c
  simp only at hd hs h1 h2 h3 h4 h8 h9 h10 h11 h12 h13 ⊢
  subst hd
  congr 1
  refine (arr_lit t hs).trans ?_
  rw [lit_all]
  simp only [h1, h2, h3, h4, h8, h9, h10, h11, h12, h13]
end Go.Proofs.YtleclhnlojalbaaGreatDoor
