/-
  The fields of a made schema have such defaults. Conditions: those that each theorem names.
-/
import Derived.Test.YtjeoekggdohhiaaDoorPkB23
import Derived.Test.YtjeoekggdohhiaaDoorPkB30
import Derived.Test.YtjeoekggdohhiaaDoorPkB35
import Derived.Test.YtjeoekggdohhiaaDoorPkB37
import Derived.Test.YtjeoekggdohhiaaDoorPkB42
import Derived.Deep.MidRow
namespace Go.Proofs.YtjeoekggdohhiaaDoor
open Go.ChangeShapes Go.WideShapes Go.ChangeAt Go.RowKit Go.Shelf

theorem u8_none : (decide (u8At [] 0 < 0)) = true := by kernel_rfl
theorem sort_some {k : Nat} {lists : Int} (h1 : 1 ≤ k) (h2 : k ≤ 13) (h3 : 0 ≤ lists) : sortP k lists = 1 ∨ sortP k lists = 2 ∨ sortP k lists = 3 ∨ sortP k lists = 4 := by
  by_cases hl : 0 < lists
  · exact .inr (.inr (.inl (if_pos hl)))
  · obtain rfl : lists = 0 := by omega
    rcases tk_cases k h1 h2 with ⟨_, h, _⟩ | ⟨_, h, _⟩ | ⟨_, h, _⟩
    · exact .inr (.inr (.inr h))
    · exact .inr (.inl h)
    · exact .inl h
theorem fits_dflt (ss : List CRec) (es : List SCho) (room k : Nat) (ref lists : Int) (n : Nat) (hs : sortP k lists = 1 ∨ sortP k lists = 2 ∨ sortP k lists = 3 ∨ sortP k lists = 4) (h1 : sortP k lists = 1 → fitsT es k ref lists n = true) (h0 : sortP k lists ≠ 1 → n = 0) :
    fitsP ss es room k ref lists (numV n) = true := by
  rw [fitsP_eq]
  rcases hs with h | h | h | h
  · have hf := h1 h
    rw [h]
    simp [bareP, numV, PV.num, PV.bytes, PV.kids, PV.has, hf]
  · obtain rfl := h0 (by rw [h]; decide)
    have hu := of_decide_eq_true u8_none
    rw [h]
    simp [bareP, numV, PV.num, PV.bytes, PV.kids, PV.has, hu]
  · obtain rfl := h0 (by rw [h]; decide)
    rw [h]
    simp [bareP, numV, PV.num, PV.bytes, PV.kids, PV.has]
  · obtain rfl := h0 (by rw [h]; decide)
    rw [h]
    simp [bareP, numV, PV.num, PV.bytes, PV.kids, PV.has]
theorem isdef_empty {ss : List CRec} {es : List SCho} {room k : Nat} {ref lists : Int} {n : Nat} {q : PV} (hf : fitsP ss es room k ref lists q = true) (hs : sortP k lists = 1 ∨ sortP k lists = 2 ∨ sortP k lists = 3 ∨ sortP k lists = 4) (h0 : sortP k lists ≠ 1 → n = 0) :
    emptyP k lists n q = true ↔ q = numV n := by
  rw [fitsP_eq, Bool.and_eq_true] at hf
  obtain ⟨hb, _⟩ := hf
  obtain ⟨m, bs, ks, hh⟩ := q
  unfold emptyP
  rcases hs with h | h | h | h
  · rw [h] at hb ⊢
    simp [bareP, PV.num, PV.bytes, PV.kids, PV.has] at hb
    obtain ⟨b1, b2, b3⟩ := hb
    subst b1 b3
    simp at b2
    subst b2
    rw [if_pos rfl]
    exact ⟨fun h => by rw [show m = n from of_decide_eq_true h]; rfl, fun h => decide_eq_true (congrArg PV.num h)⟩
  · obtain rfl := h0 (by rw [h]; decide)
    rw [h] at hb ⊢
    simp [bareP, PV.num, PV.bytes, PV.kids, PV.has] at hb
    obtain ⟨b1, b2, b3⟩ := hb
    have b1 := of_decide_eq_true b1
    subst b1 b3
    simp at b2
    subst b2
    rw [if_neg (by decide), if_pos rfl]
    exact ⟨fun h => by rw [show bs = [] from List.eq_nil_of_length_eq_zero (of_decide_eq_true h)]; rfl, fun h => decide_eq_true (congrArg (fun v => (PV.bytes v).length) h)⟩
  · obtain rfl := h0 (by rw [h]; decide)
    rw [h] at hb ⊢
    simp [bareP, PV.num, PV.bytes, PV.kids, PV.has] at hb
    obtain ⟨b1, b2, b3⟩ := hb
    have b1 := of_decide_eq_true b1
    subst b1 b2 b3
    rw [if_neg (by decide), if_neg (by decide), if_pos rfl]
    exact ⟨fun h => by rw [show ks = [] from List.eq_nil_of_length_eq_zero (of_decide_eq_true h)]; rfl, fun h => decide_eq_true (congrArg (fun v => (PV.kids v).length) h)⟩
  · obtain rfl := h0 (by rw [h]; decide)
    rw [h] at hb ⊢
    simp [bareP, PV.num, PV.bytes, PV.kids, PV.has] at hb
    obtain ⟨b1, b2, b3⟩ := hb
    have b1 := of_decide_eq_true b1
    subst b1 b2
    rw [if_neg (by decide), if_neg (by decide), if_neg (by decide), if_pos rfl]
    cases hh with
    | true => exact ⟨fun h => Bool.noConfusion h, fun h => Bool.noConfusion (congrArg PV.has h)⟩
    | false =>
      simp at b3
      subst b3
      exact ⟨fun _ => rfl, fun _ => rfl⟩
theorem dflt_nums {p : Plan} {ss : List (SRec × Value)} (hss : ss.map Prod.fst = recsP p p.structs.length) : ∀ q ∈ crow ss, ∀ f ∈ q.1.fields, sortP f.kind f.lists ≠ 1 → f.dflt = 0 := by
  intro q hq f hf hs
  obtain ⟨i, hi, _, _, hall⟩ := made_fld hss q hq
  obtain ⟨k, hk, rfl⟩ := hall f hf
  generalize (p.structs.getD i []).getD k noPF = x at *
  show (if isNumP (kindP p i x) (x.lists % 4) = true then numP _ _ _ else 0 : Nat) = 0
  refine if_neg fun h => hs ?_
  unfold isNumP at h
  rw [Bool.and_eq_true, decide_eq_true_iff, decide_eq_true_iff] at h
  show sortP (kindP p i x) ((x.lists % 4 : Nat) : Int) = 1
  unfold sortP
  rw [h.1]
  simp [h.2]
end Go.Proofs.YtjeoekggdohhiaaDoor
namespace Go.Proofs.YtjeoekggdohhiaaDoor
open Go.ChangeShapes Go.WideShapes Go.ChangeAt Go.RowKit Go.Shelf

def DfltsOk (es : List SCho) (fs : List CFld) : Prop := ∀ f ∈ fs, (1 ≤ f.kind ∧ f.kind ≤ 13 ∧ 0 ≤ f.lists) ∧ (sortP f.kind f.lists = 1 → fitsT es f.kind f.ref f.lists f.dflt = true) ∧ (sortP f.kind f.lists ≠ 1 → f.dflt = 0)
theorem dfltN_eq {es : List SCho} {fs : List CFld} (h : DfltsOk es fs) {f : CFld} (hf : f ∈ fs) : dfltN f = f.dflt := by
  unfold dfltN
  by_cases hs : sortP f.kind f.lists = 1
  · rw [if_pos hs]
  · rw [if_neg hs, (h f hf).2.2 hs]
theorem defV_eq {es : List SCho} {fs : List CFld} (h : DfltsOk es fs) : defV fs = structV (fs.map CFld.dflt) := by
  unfold defV
  rw [List.map_congr_left fun f hf => dfltN_eq h hf]
theorem defV_kid (fs : List CFld) (k : Nat) (hk : k < fs.length) : kidP (defV fs) k = numV (dfltN fs[k]) := by
  have hl : k < (defV fs).kids.length := by
    show k < ((fs.map dfltN).map numV).length
    rw [List.length_map, List.length_map]
    exact hk
  rw [kidP_at _ _ hl]
  have e : ((fs.map dfltN).map numV)[k]? = some (numV (dfltN fs[k])) := by
    rw [List.getElem?_map, List.getElem?_map, List.getElem?_eq_getElem hk]
    rfl
  have e2 : (defV fs).kids[k]? = some (numV (dfltN fs[k])) := e
  rw [List.getElem?_eq_getElem hl] at e2
  exact Option.some.inj e2
theorem defV_empty {es : List SCho} {fs : List CFld} (h : DfltsOk es fs) (k : Nat) (hk : k < fs.length) : emptyP fs[k].kind fs[k].lists fs[k].dflt (kidP (defV fs) k) = true := by
  obtain ⟨h1, h2, h3⟩ := h fs[k] (List.getElem_mem hk)
  have hs := sort_some h1.1 h1.2.1 h1.2.2
  rw [defV_kid fs k hk, dfltN_eq h (List.getElem_mem hk)]
  exact (isdef_empty (ss := []) (fits_dflt [] es 0 _ _ _ _ hs h2 h3) hs h3).2 rfl
theorem defV_fits {ss : List CRec} {es : List SCho} {i : Nat} (hi : i < ss.length) (h : DfltsOk es ss[i].fields) (room : Nat) : fitsP ss es (room + 1) 13 i 0 (defV ss[i].fields) = true := by
  have hget : ss.getD ((i : Nat) : Int).toNat ⟨⟨#[]⟩, []⟩ = ss[i] := by rw [Int.toNat_natCast, List.getD, List.getElem?_eq_getElem hi, Option.getD_some]
  have hlen : (defV ss[i].fields).kids.length = ss[i].fields.length := by
    show ((ss[i].fields.map dfltN).map numV).length = _
    rw [List.length_map, List.length_map]
  have hall : fieldsP (fitsP ss es room) ss[i].fields (defV ss[i].fields).kids = true := fieldsP_all _ _ _ hlen.symm fun k hx hk => by
    obtain ⟨h1, h2, h3⟩ := h ss[i].fields[k] (List.getElem_mem hx)
    have e : (defV ss[i].fields).kids[k] = numV (dfltN ss[i].fields[k]) := by
      rw [← kidP_at _ _ hk]
      exact defV_kid _ k hx
    rw [e, dfltN_eq h (List.getElem_mem hx)]
    exact fits_dflt ss es room _ _ _ _ (sort_some h1.1 h1.2.1 h1.2.2) h2 h3
  rw [fitsP_eq, show sortP 13 0 = 4 from rfl]
  show (bareP 4 _ && (!true || structP ss es (room + 1) i (defV ss[i].fields).kids)) = true
  unfold structP
  rw [hget, hlen, Nat.add_sub_cancel, hall, decide_eq_true ⟨by omega, by omega⟩, decide_eq_false (Nat.succ_ne_zero room), decide_eq_true rfl]
  rfl
theorem fieldsP_at (f : Nat → Int → Int → PV → Bool) (xs : List CFld) (ks : List PV) (h : fieldsP f xs ks = true) : ∀ i (hx : i < xs.length) (hk : i < ks.length), f xs[i].kind xs[i].ref xs[i].lists ks[i] = true := by
  induction xs generalizing ks with
  | nil => intro i hx; exact absurd hx (Nat.not_lt_zero i)
  | cons x xs ih =>
    cases ks with
    | nil => intro i _ hk; exact absurd hk (Nat.not_lt_zero i)
    | cons v vs =>
      have h2 : (f x.kind x.ref x.lists v && fieldsP f xs vs) = true := h
      rw [Bool.and_eq_true] at h2
      intro i hx hk
      cases i with
      | zero => exact h2.1
      | succ i => exact ih vs h2.2 i (by simpa using hx) (by simpa using hk)
theorem fits_kids {ss : List CRec} {es : List SCho} {room i : Nat} {v : PV} (hi : i < ss.length) (hh : v.has = true) (hf : fitsP ss es (room + 1) 13 i 0 v = true) : v.kids.length = ss[i].fields.length ∧ ∀ k (hx : k < ss[i].fields.length) (hk : k < v.kids.length), fitsP ss es room ss[i].fields[k].kind ss[i].fields[k].ref ss[i].fields[k].lists v.kids[k] = true := by
  have hget : ss.getD ((i : Nat) : Int).toNat ⟨⟨#[]⟩, []⟩ = ss[i] := by rw [Int.toNat_natCast, List.getD, List.getElem?_eq_getElem hi, Option.getD_some]
  rw [fitsP_eq, show sortP 13 0 = 4 from rfl, Bool.and_eq_true] at hf
  have h2 : (!v.has || structP ss es (room + 1) i v.kids) = true := hf.2
  rw [hh] at h2
  have h3 : structP ss es (room + 1) i v.kids = true := h2
  unfold structP at h3
  rw [hget, Nat.add_sub_cancel, Bool.and_eq_true, Bool.and_eq_true, Bool.and_eq_true] at h3
  exact ⟨of_decide_eq_true h3.2.2.1, fieldsP_at _ _ _ h3.2.2.2⟩
end Go.Proofs.YtjeoekggdohhiaaDoor
namespace Go.Proofs.YtjeoekggdohhiaaDoor
open Go.ChangeShapes Go.WideShapes Go.ChangeAt Go.RowKit Go.Shelf

theorem structP_parts {ss : List (CRec × Value)} {es : List SCho} {room : Nat} {rec : Int} {ks : List PV} (h : structP (ss.map Prod.fst) es room rec ks = true) : ∃ (i r : Nat) (hi : i < ss.length), rec = i ∧ room = r + 1 ∧ ks.length = ss[i].1.fields.length ∧
    ∀ j (hx : j < ss[i].1.fields.length) (hk : j < ks.length), fitsP (ss.map Prod.fst) es r ss[i].1.fields[j].kind ss[i].1.fields[j].ref ss[i].1.fields[j].lists ks[j] = true := by
  unfold structP at h
  rw [Bool.and_eq_true, Bool.and_eq_true, Bool.and_eq_true] at h
  obtain ⟨h1, h2, h3, h4⟩ := h
  have h1 := of_decide_eq_true h1
  rw [List.length_map] at h1
  obtain ⟨i, rfl⟩ := Int.eq_ofNat_of_zero_le h1.1
  obtain ⟨r, rfl⟩ : ∃ r, room = r + 1 := ⟨room - 1, by simp at h2; omega⟩
  have hi : i < ss.length := by omega
  have hge : (ss.map Prod.fst).getD ((i : Nat) : Int).toNat ⟨⟨#[]⟩, []⟩ = ss[i].1 := by rw [Int.toNat_natCast, List.getD, List.getElem?_map, List.getElem?_eq_getElem hi]; rfl
  rw [hge] at h3 h4
  exact ⟨i, r, hi, rfl, rfl, of_decide_eq_true h3, fieldsP_at _ _ _ h4⟩
def nilKV : KV := ⟨nilV, .int .u64 0, .slice none 0 0, .slice none 0 0, .bool false⟩
theorem rowN_kv (n : Nat) : rowN (List.replicate n 0) = kvsCells (List.replicate n nilKV) := by
  induction n with
  | zero => rfl
  | succ n ih =>
    rw [List.replicate_succ, List.replicate_succ]
    show cellN 0 ++ rowN (List.replicate n 0) = kvCells nilKV ++ kvsCells (List.replicate n nilKV)
    rw [ih]
    rfl
def TrStAt (w : World) (B K n : Nat) (ks : List PV) (sv ev : Value) (root : Int) (x : Value) (wr : World) : Prop := ∃ (j : Nat) (l : List KV), j ≤ n ∧ x = .int .i64 j ∧ l.length = n ∧ wr.ownsRow (B + 1 + 1) 36 4 (.slice (some ⟨K, 0, none⟩) n n) n (kvsCells l) ∧ (∃ cur, wr.heap[K]? = some (.cells cur 36 (0, 0))) ∧
  KidsIn (rowS (B + 1 + 1) (.slice (some ⟨K, 0, none⟩) n n)) wr l ∧ (∀ i (h1 : i < l.length) (h2 : i < ks.length), i < j → l[i].v = ks[i]) ∧ wr.heap[B + 1]? = some (.cells #[.int .u64 0, .slice none 0 0, .slice none 0 0, .bool false] 36 (0, 0)) ∧
  wr.heap[B]? = some (.cells #[sv, ev, .int .i64 root] 30 (0, 0)) ∧ Below B w wr
set_option maxRecDepth 100000 in
set_option maxHeartbeats 8000000 in
theorem vstructtree {ss : List (CRec × Value)} {es : List (SCho × Value)} (hF : FldsOk ss) (room : Nat) (hr12 : room ≤ 12) (hnx : ∀ r, room = r + 1 → KidAt ss es r) : StructAt ss es room := by
  intro w base sv ev root rec x val h hx hsm hn0 hb0 hh0 hst
  obtain ⟨sa, sc, ea, ec, rfl, rfl⟩ := h.forms
  obtain ⟨i, r, hi, rfl, hr, hlen, hfit⟩ := structP_parts hst
  obtain ⟨h0, h1, h2⟩ := two_start w #[.slice sa ss.length sc, .slice ea es.length ec, .int .i64 root] #[.int .u64 0, .slice none 0 0, .slice none 0 0, .bool false] 30 36
  have hkl : x.kids.length ≤ 100 := hsm.kids.2.1
  have HCW := Lib.hid h
  have HX := Lib.hid hx
  have HB := Lib.hid h0
  have HC0 := Lib.hid (h.below h0)
  have Q1 := Lib.hid h1
  have Q2 := Lib.hid h2
  have HSM := Lib.hid hsm
  have HKA := Lib.hid (hnx r hr)
  have HFIT := Lib.hid hfit
  have HLEN := Lib.hid hlen
  have HX0 := Lib.hid (And.intro hn0 (And.intro hb0 hh0))
  have HOK := Lib.hid (hF _ (List.getElem_mem hi))
  have HRM := Lib.hid hr
  have hrn : ((room : Int) == 0) = false := by simp; omega
  have hrw : (room : Int) - 1 = (r : Int) := by omega
  have hrw2 : IntKind.i64.wrap (r : Int) = r := IntWalk.i64_in _ (by omega)
  have hfl : ss[i].1.fields.length ≤ 1000000 := by omega
  have HROWS : Hid (∀ W, Below w.heap.size w W → W.ownsRow base 57 5 ss[i].2 ss[i].1.fields.length (cfldsCells ss[i].1.fields)) := Lib.hid (fun W hb => row_keep hb (h.fields _ (List.getElem_mem hi)))
  clear h0 h1 h2 h hx hsm hnx hn0 hb0 hh0 hst hfit hF hr hlen
  have e0 := view_no val
  unfold viewI at *
  go_enter Tryd.func26, Tryd.ntmps26
  go_upto_region 1 with (fail)
  generalize (w.alloc (.cells #[.slice sa ss.length sc, .slice ea es.length ec, .int .i64 root] 30)).alloc (.cells #[.int .u64 0, .slice none 0 0, .slice none 0 0, .bool false] 36) = W0 at *
  obtain ⟨_, s0, s1, s2, _⟩ := blk3 Q1.out
  go_wp2_with fail
  refine (vfields_any W0 root i HC0.out).mono ?_
  rintro e W1 ⟨hb1, hpost⟩
  have HB1 := Lib.hid (HB.out.trans (hb1.mono HB.out.size))
  have P1 := Lib.hid (blk_below Q1.out hb1 (blk_lt Q1.out))
  have P2 := Lib.hid (blk_below Q2.out hb1 (blk_lt Q2.out))
  clear hb1 s0 s1 s2 Q1 Q2 HB HC0
  rcases hpost with ⟨hno, rfl⟩ | ⟨i', hi', hii, rfl⟩
  · exact absurd ⟨by omega, by omega⟩ hno
  obtain rfl : i = i' := by omega
  obtain ⟨fa, fc, hf⟩ := ownsRow_form (HROWS.out w (Below.refl _ _))
  rw [hf] at HROWS ⊢
  obtain ⟨n, hn⟩ : ∃ n, ss[i].1.fields.length = n := ⟨_, rfl⟩
  generalize ss[i].1.fields = xs at *
  obtain rfl := hn
  have hmk := make_vals xs.length hfl W1
  clear hf hii
  go_upto_region 5 with (fail)
  have hba : Below W1.heap.size W1 (W1.alloc (.cells (rowN (List.replicate xs.length 0)).toArray 36)) := (Below.refl _ _).alloc (Nat.le_refl _) _
  have HKB := Lib.hid (heap_alloc_new W1 (.cells (rowN (List.replicate xs.length 0)).toArray 36))
  have HKK : Hid (w.heap.size + 1 < W1.heap.size) := Lib.hid (blk_lt P2.out)
  have HB2 := Lib.hid (HB1.out.trans (hba.mono HB1.out.size))
  have R1 := Lib.hid (blk_below P1.out hba (blk_lt P1.out))
  have R2 := Lib.hid (blk_below P2.out hba (blk_lt P2.out))
  clear hba hmk P1 P2 HB1
  generalize W1.alloc (.cells (rowN (List.replicate xs.length 0)).toArray 36) = W2 at *
  generalize W1.heap.size = K at *
  have HST : Hid (TrStAt w w.heap.size K xs.length x.kids (.slice sa ss.length sc) (.slice ea es.length ec) root (.int .i64 ((0 : Nat) : Int)) W2) := Lib.hid ⟨0, List.replicate xs.length nilKV, Nat.zero_le _, rfl, List.length_replicate, by
      have hsz : (rowN (List.replicate xs.length 0)).toArray.size = xs.length * 4 := by rw [List.size_toArray, rowN_len, List.length_replicate]
      have h := own_blk (base := w.heap.size + 1 + 1) (n := xs.length) (size := 4) HKB.out HKK.out (by unfold maxLen; omega) hsz
      rw [rowN_kv] at h
      exact h, ⟨_, HKB.out⟩, fun q hq => by rw [List.eq_of_mem_replicate hq]; exact vh_nil _ _, fun i _ _ h => absurd h (Nat.not_lt_zero _), R2.out, R1.out, HB2.out⟩
  clear HKB R1 R2
  go_wp2_with fail
  go_loopw [37] (fun y wr => TrStAt w w.heap.size K xs.length x.kids (.slice sa ss.length sc) (.slice ea es.length ec) root y wr) (fun y _ => xs.length - (intOf y).toNat)
  case atStart => exact HST.out
  case round =>
    obtain ⟨j, l, hj, rfl, hll, hrow, hcur, hkin, hkv, hR, hSB, hbw⟩ := hrel
    have HROW := Lib.hid hrow
    have HCUR := Lib.hid hcur
    have HKI := Lib.hid hkin
    have HKV := Lib.hid hkv
    have HR := Lib.hid hR
    have HSB := Lib.hid hSB
    have HBW := Lib.hid hbw
    have HLL := Lib.hid hll
    clear hrow hcur hkin hkv hR hSB hbw hll
    by_cases hjl : j < xs.length
    · have hji : (j : Int) < (xs.length : Int) := by omega
      have hji0 : (0 : Int) ≤ (j : Int) := by omega
      have hjk : j < x.kids.length := by have := HLEN.out; omega
      obtain ⟨g, cc, hv, hcc, hgl, hcell⟩ := row_el cfldCells 5 (fun _ => rfl) (HROWS.out wr HBW.out) j hjl
      obtain ⟨rfl, rfl⟩ := slice_inj hv
      have hfit := HFIT.out j hjl hjk
      obtain ⟨hk255, hl0, hl1, _⟩ := HOK.out _ (List.getElem_mem hjl)
      obtain ⟨q, hq⟩ : ∃ q, x.kids[j] = q := ⟨_, rfl⟩
      obtain ⟨f, hf⟩ : ∃ f, xs[j] = f := ⟨_, rfl⟩
      have hkq : kidP x j = q := by rw [kidP_at x j hjk, hq]
      rw [hq, hf] at hfit
      rw [hf] at hcell hk255 hl0 hl1
      have x0 : wr.cell? ⟨g, j * 5, none⟩ = some (.string f.name) := hcell 0 (by omega)
      have x1 : wr.cell? ⟨g, j * 5 + 1, none⟩ = some (.int .u8 f.kind) := hcell 1 (by omega)
      have x2 : wr.cell? ⟨g, j * 5 + 2, none⟩ = some (.int .i64 f.ref) := hcell 2 (by omega)
      have x3 : wr.cell? ⟨g, j * 5 + 3, none⟩ = some (.int .i64 f.lists) := hcell 3 (by omega)
      have x4 : wr.cell? ⟨g, j * 5 + 4, none⟩ = some (.int .u64 f.dflt) := hcell 4 (by omega)
      have HQ := Lib.hid hq
      have HK : Hid (∀ W, Below wr.heap.size wr W → Calls Tryd.prog 38 #[.agg #[.slice sa ss.length sc, .slice ea es.length ec, .int .i64 root], .agg #[.int .u8 f.kind, .int .i64 f.ref, .int .i64 f.lists], .iface 78 val, .int .i64 j, .int .i64 r] W (TreePost W q)) := Lib.hid (fun W hb => by
        have h := HKA.out W base _ _ root f.kind f.ref f.lists x val j true (HCW.out.below (HBW.out.trans (hb.mono HBW.out.size))) hk255 hl0 hl1 (HX.out.later (HBW.out.trans (hb.mono HBW.out.size))) (HSM.out.kid j) (by rw [hkq]; exact hfit) (fun h => by cases h)
        rw [hkq] at h
        exact h)
      have hzc : ∀ u, u < 4 → ∃ o, wr.cell? ⟨K, j * 4 + u, none⟩ = some o := fun u hu => by
        obtain ⟨g', c', hv', _, _, hc'⟩ := row_el kvCells 4 (fun _ => rfl) (l := l) (by rw [HLL.out]; exact HROW.out) j (by rw [HLL.out]; exact hjl)
        have hv'' := (slice_inj hv').1
        injection hv'' with hv''
        injection hv'' with hv'' _ _
        subst hv''
        have h4 : (kvCells (l[j]'(by rw [HLL.out]; exact hjl))).length = 4 := rfl
        exact ⟨_, (hc' u hu).trans (List.getElem?_eq_getElem (by rw [h4]; exact hu))⟩
      have HZC := Lib.hid hzc
      clear hcell hv hq hf hkq hfit hk255 hl0 hl1 hzc
      generalize f.name = xn at *
      generalize f.kind = xk at *
      generalize f.ref = xr at *
      generalize f.lists = xl at *
      generalize f.dflt = xd at *
      go_upto_region 8 with (fail)
      have hba : Below wr.heap.size wr (wr.alloc (.cells #[.string xn, .int .u8 xk, .int .i64 xr, .int .i64 xl, .int .u64 xd] 57)) := (Below.refl _ _).alloc (Nat.le_refl _) _
      have HFB := Lib.hid (heap_alloc_new wr (.cells #[.string xn, .int .u8 xk, .int .i64 xr, .int .i64 xl, .int .u64 xd] 57))
      have HBA := Lib.hid hba
      have HSB5 := Lib.hid (blk_below HSB.out hba (blk_lt HSB.out))
      clear x0 x1 x2 x3 x4 hba
      generalize wr.alloc (.cells #[.string xn, .int .u8 xk, .int .i64 xr, .int .i64 xl, .int .u64 xd] 57) = W5 at *
      obtain ⟨_, s0, s1, s2, _⟩ := blk3 HSB5.out
      obtain ⟨_, y0, y1, y2, y3, y4, _⟩ := blk5 HFB.out
      go_wp2_with fail
      refine (HK.out W5 HBA.out).mono ?_
      rintro e W6 ⟨⟨val6, rfl, hvh6⟩, hb6⟩
      obtain ⟨ba, ka, bcc, kcc, rfl, _⟩ := IsV.form hvh6
      have hb56 : Below wr.heap.size wr W6 := HBA.out.trans (hb6.mono HBA.out.size)
      obtain ⟨cur, hcur⟩ := HCUR.out
      have hK6 := blk_below hcur hb56 (blk_lt hcur)
      obtain ⟨o0, z0⟩ := HZC.out 0 (by decide)
      obtain ⟨o1, z1⟩ := HZC.out 1 (by decide)
      obtain ⟨o2, z2⟩ := HZC.out 2 (by decide)
      obtain ⟨o3, z3⟩ := HZC.out 3 (by decide)
      replace z0 := cell_stays hb56 z0
      replace z1 := cell_stays hb56 z1
      replace z2 := cell_stays hb56 z2
      replace z3 := cell_stays hb56 z3
      rw [Nat.add_zero] at z0
      have f0 := blk_frozen hK6 (j * 4)
      have f1 := blk_frozen hK6 (j * 4 + 1)
      have f2 := blk_frozen hK6 (j * 4 + 2)
      have f3 := blk_frozen hK6 (j * 4 + 3)
      have hKlt := blk_lt hcur
      have hWV := HBA.out.size
      have HVH6 := Lib.hid hvh6
      have HB56 := Lib.hid hb56
      have HK6 := Lib.hid hK6
      have HKLT := Lib.hid hKlt
      have HWV := Lib.hid hWV
      clear s0 s1 s2 y0 y1 y2 y3 y4 HK hvh6 hb6 hb56 hK6 hcur hKlt hWV
      go_wp2
      go_roundw
      case rel =>
        have hkk := HKK.out
        have hKlt := HKLT.out
        have hWV := HWV.out
        have hs9 : ((((W6.setCell ⟨K, j * 4, none⟩ (.int .u64 q.num)).setCell ⟨K, j * 4 + 1, none⟩ (.slice ba q.bytes.length bcc)).setCell ⟨K, j * 4 + 2, none⟩ (.slice ka q.kids.length kcc)).setCell ⟨K, j * 4 + 3, none⟩ (.bool q.has)).heap.size = W6.heap.size := by simp [World.setCell]
        have rheap : ∀ k, k ≠ K → ((((W6.setCell ⟨K, j * 4, none⟩ (.int .u64 q.num)).setCell ⟨K, j * 4 + 1, none⟩ (.slice ba q.bytes.length bcc)).setCell ⟨K, j * 4 + 2, none⟩ (.slice ka q.kids.length kcc)).setCell ⟨K, j * 4 + 3, none⟩ (.bool q.has)).heap[k]? = W6.heap[k]? := fun k hk => (Below.heap_setCell _ _ _ _ (by show k ≠ K; exact hk)).trans ((Below.heap_setCell _ _ _ _ (by show k ≠ K; exact hk)).trans ((Below.heap_setCell _ _ _ _ (by show k ≠ K; exact hk)).trans (Below.heap_setCell _ _ _ _ (by show k ≠ K; exact hk))))
        have hjl' : j < l.length := by rw [HLL.out]; exact hjl
        refine ⟨j + 1, l.set j ⟨q, .int .u64 q.num, .slice ba q.bytes.length bcc, .slice ka q.kids.length kcc, .bool q.has⟩, by omega, by go_num, by rw [List.length_set]; exact HLL.out, ?_, ?_, ?_, ?_, (rheap _ (by omega)).trans (blk_below HR.out HB56.out (blk_lt HR.out)), (rheap _ (by omega)).trans (blk_below HSB.out HB56.out (blk_lt HSB.out)), ?_⟩
        · have h := own_put (own_put (own_put (own_put (row_keep HB56.out HROW.out) (j * 4) (.int .u64 q.num)) (j * 4 + 1) (.slice ba q.bytes.length bcc)) (j * 4 + 2) (.slice ka q.kids.length kcc)) (j * 4 + 3) (.bool q.has)
          rw [kvs_set l j ⟨q, .int .u64 q.num, .slice ba q.bytes.length bcc, .slice ka q.kids.length kcc, .bool q.has⟩ hjl'] at h
          exact h
        · exact ⟨_, blk_set (blk_set (blk_set (blk_set HK6.out _ _) _ _) _ _) _ _⟩
        · intro p hp
          rcases List.mem_or_eq_of_mem_set hp with h | h
          · refine (HKI.out p h).step (by rw [hs9]; exact HB56.out.size) (fun k hk hs => ?_)
            have hne : k ≠ K := fun e => (rowS_no.1 hs).2 (by rw [e]; rfl)
            exact ⟨hs, (rheap k hne).trans (HB56.out.block k hk)⟩
          · subst h
            refine VH.step HVH6.out (by rw [hs9]; exact Nat.le_refl _) (fun k hk hs => ?_)
            have h1 : W5.heap.size ≤ k := by unfold newS at hs; simpa using hs
            exact ⟨rowS_no.2 ⟨by omega, fun e => by have e2 : some K = some k := e; injection e2 with e2; omega⟩, rheap k (by omega)⟩
        · intro i h1 h2 hi
          rw [List.getElem_set]
          split
          · rename_i e
            subst e
            exact HQ.out.symm
          · exact HKV.out i (by rw [List.length_set] at h1; exact h1) h2 (by omega)
        · exact ((((HBW.out.trans (HB56.out.mono HBW.out.size)).setCell (p := ⟨K, j * 4, none⟩) (show w.heap.size ≤ K by omega) _).setCell (p := ⟨K, j * 4 + 1, none⟩) (show w.heap.size ≤ K by omega) _).setCell (p := ⟨K, j * 4 + 2, none⟩) (show w.heap.size ≤ K by omega) _).setCell (p := ⟨K, j * 4 + 3, none⟩) (show w.heap.size ≤ K by omega) _
      case measure => simp [intOf]; omega
    · obtain rfl : j = xs.length := by omega
      obtain ⟨_, u0, u1, u2, u3⟩ := blk4p HR.out
      have p0 := blk_frozen HR.out 0
      have p1 := blk_frozen HR.out 1
      have p2 := blk_frozen HR.out 2
      have p3 := blk_frozen HR.out 3
      clear hjl
      go_wp2
      refine post_gen (fun Wf => Wf.heap[w.heap.size + 1]? = some (.cells #[.int .u64 0, .slice none 0 0, .slice (some ⟨K, 0, none⟩) xs.length xs.length, .bool true] 36 (0, 0)) ∧ Below w.heap.size w Wf ∧ Wf.ownsRow (w.heap.size + 1 + 1) 36 4 (.slice (some ⟨K, 0, none⟩) xs.length xs.length) xs.length (kvsCells l) ∧ KidsIn (rowS (w.heap.size + 1 + 1) (.slice (some ⟨K, 0, none⟩) xs.length xs.length)) Wf l) ⟨?_, ?_, ?_, ?_⟩ ?_
      · exact blk_set4 (w := wr) HR.out _ _ _ _
      · exact below_set4 HBW.out (Nat.le_succ _) _ _ _ _
      · exact own_set4 HROW.out (by omega) _ _ _ _
      · exact HKI.out.step (by simp [World.setCell]) (fun k hk hS => ⟨hS, set4_blk wr (by have := (rowS_no.1 hS).1; omega) _ _ _ _⟩)
      · rintro Wf ⟨e1, e2, e3, e4⟩
        obtain ⟨_, d0, d1, d2, d3⟩ := blk4p e1
        have hxe : PV.mk 0 [] (l.map KV.v) true = x := by
          have hm : l.map KV.v = x.kids := by
            apply List.ext_getElem
            · rw [List.length_map, HLL.out, HLEN.out]
            · intro i h1 h2
              rw [List.getElem_map]
              exact HKV.out i (by simpa using h1) h2 (by have := HLEN.out; omega)
          rw [hm, pv_eq x, HX0.out.1, HX0.out.2.1, HX0.out.2.2]
          rfl
        have hvh := vh_kids (S' := newS w.heap.size) e3 e4 (fun k hS => by have := (rowS_no.1 hS).1; unfold newS; simp; omega) (fun k hk => by unfold newS; simp; omega) true
        rw [hxe] at hvh
        exact bodyPost_ret (v := .tuple #[.agg #[.int .u64 0, .slice none 0 0, .slice (some ⟨K, 0, none⟩) xs.length xs.length, .bool true], .bool true]) (by simp [results, Tryd.results26, go_sem, d0, d1, d2, d3]) rfl ⟨⟨_, rfl, hvh⟩, e2⟩
end Go.Proofs.YtjeoekggdohhiaaDoor
namespace Go.Proofs.YtjeoekggdohhiaaDoor
open Go.ChangeShapes Go.WideShapes Go.ChangeAt Go.RowKit Go.Shelf

theorem made_dflts {p : Plan} {ss : List (SRec × Value)} {es : List SCho} (hss : ss.map Prod.fst = recsP p p.structs.length) (hm : SchM ss es) : ∀ q ∈ crow ss, DfltsOk es q.1.fields := by
  intro q hq f hf
  have h0 := dflt_nums hss q hq f hf
  obtain ⟨x, hx, rfl⟩ := List.mem_map.1 hq
  obtain ⟨y, hy, rfl⟩ := List.mem_map.1 (show f ∈ x.1.fields.map cF from hf)
  obtain ⟨ht, hd, hn⟩ := (hm.2 x hx).2 y hy
  refine ⟨⟨ht.lo, ht.hi, Int.natCast_nonneg _⟩, fun hs => ?_, h0⟩
  have hs' : sortP y.kind ((y.lists : Nat) : Int) = 1 := hs
  have hl : y.lists = 0 := by
    rcases Nat.eq_zero_or_pos y.lists with h | h
    · exact h
    · rw [show sortP y.kind ((y.lists : Nat) : Int) = 3 from if_pos (by omega)] at hs'
      cases hs'
  have hk : y.kind ≤ 10 := by
    rcases Nat.lt_or_ge 10 y.kind with h | h
    · rw [hl] at hs'
      rcases tk_cases y.kind ht.lo ht.hi with ⟨_, h2, _⟩ | ⟨_, h2, _⟩ | ⟨h2, _⟩
      · rw [show sortP y.kind ((0 : Nat) : Int) = sortP y.kind 0 from rfl, h2] at hs'; cases hs'
      · rw [show sortP y.kind ((0 : Nat) : Int) = sortP y.kind 0 from rfl, h2] at hs'; cases hs'
      · omega
    · exact h
  have h := hn hl hk
  show fitsT es y.kind ((y.ref : Nat) : Int) ((y.lists : Nat) : Int) y.dflt = true
  rw [hl]
  exact h
end Go.Proofs.YtjeoekggdohhiaaDoor
