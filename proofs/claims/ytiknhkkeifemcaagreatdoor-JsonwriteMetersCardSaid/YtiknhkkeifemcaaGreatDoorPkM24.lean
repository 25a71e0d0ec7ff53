/-
  Views and lists as interface values, whatever stands behind them: what it means that one shows a value. Conditions: those that each theorem names.
-/
import Derived.Test.YtiknhkkeifemcaaGreatDoorPkM17
import Derived.Test.YtiknhkkeifemcaaGreatDoorPkM20
import Derived.Test.YtiknhkkeifemcaaGreatDoorPkM23
import Derived.Maps.AppendAt
namespace Go.Proofs.YtiknhkkeifemcaaGreatDoor
open Go.ChangeShapes Go.WideShapes Go.ChangeAt Go.RowKit Go.Shelf

structure KV where
  v : PV
  c0 : Value
  c1 : Value
  c2 : Value
  c3 : Value
def kvCells (q : KV) : List Value := [q.c0, q.c1, q.c2, q.c3]
def kvsCells (l : List KV) : List Value := l.flatMap kvCells
theorem kvsCells_snoc (l : List KV) (q : KV) : kvsCells (l ++ [q]) = kvsCells l ++ kvCells q := by simp [kvsCells]
def rowS (B : Nat) (v : Value) : Nat → Bool := fun k => decide (k < B) || decide (v.ownBlock = some k)
theorem rowS_no {B : Nat} {v : Value} {k : Nat} : rowS B v k = false ↔ B ≤ k ∧ v.ownBlock ≠ some k := by
  unfold rowS
  rw [Bool.or_eq_false_iff, decide_eq_false_iff_not, decide_eq_false_iff_not]
  constructor
  · exact fun h => ⟨by omega, h.2⟩
  · exact fun h => ⟨by omega, h.2⟩
def KidsIn (S : Nat → Bool) (W : World) (l : List KV) : Prop := ∀ q ∈ l, VH S W q.v (.agg #[q.c0, q.c1, q.c2, q.c3])
theorem KidsIn.step {S S' : Nat → Bool} {w W : World} {l : List KV} (h : KidsIn S w l) (hs : w.heap.size ≤ W.heap.size) (hb : ∀ k, k < w.heap.size → S k = false → S' k = false ∧ W.heap[k]? = w.heap[k]?) : KidsIn S' W l :=
  fun q hq => (h q hq).step hs hb
theorem kids_step {g O : Nat} {wr W6 W7 W8 : World} {v v' : Value} {l : List KV} {q : KV} {N : Nat} (hK : KidsIn (rowS (O + 1) v) wr l) (hx : Exc g wr.heap.size wr W6) (hgO : g ≤ O) (hO : O < wr.heap.size) (hv : ∀ k, v.ownBlock = some k → k < wr.heap.size)
    (hq : VH (newS wr.heap.size) W6 q.v (.agg #[q.c0, q.c1, q.c2, q.c3])) (h7 : Below W6.heap.size W6 W7) (hg : W7.grownBy W8 v.ownBlock) (hv' : v'.ownBlock = v.ownBlock ∨ v'.ownBlock = some N) (hN : W7.heap.size ≤ N) (j : Nat) (x : Value) :
    KidsIn (rowS (O + 1) v') (W8.setCell ⟨O, j, none⟩ x) (l ++ [q]) := by
  have hs6 := hx.size
  have hs7 := h7.size
  have hs8 := hg.size
  have hs9 : (W8.setCell ⟨O, j, none⟩ x).heap.size = W8.heap.size := by simp [World.setCell]
  have hheap : ∀ k, k < W6.heap.size → O + 1 ≤ k → v.ownBlock ≠ some k → (W8.setCell ⟨O, j, none⟩ x).heap[k]? = W6.heap[k]? := fun k hk hOk hne =>
    (Below.heap_setCell _ _ _ _ (by show k ≠ O; omega)).trans ((hg.block k (by omega) (fun e => hne e.symm)).trans (h7.block k hk))
  have hrow : ∀ k, k < W6.heap.size → O + 1 ≤ k → v.ownBlock ≠ some k → rowS (O + 1) v' k = false := fun k hk hOk hne => rowS_no.2 ⟨hOk, by
    rcases hv' with e | e
    · rw [e]; exact hne
    · rw [e]; intro h; injection h with h; omega⟩
  intro p hp
  rcases List.mem_append.1 hp with h | h
  · refine (hK p h).step (by omega) (fun k hk hS => ?_)
    obtain ⟨h1, h2⟩ := rowS_no.1 hS
    exact ⟨hrow k (by omega) h1 h2, (hheap k (by omega) h1 h2).trans (hx.block k hk (by omega))⟩
  · rw [List.mem_singleton.1 h]
    refine hq.step (by omega) (fun k hk hS => ?_)
    have h1 : wr.heap.size ≤ k := by unfold newS at hS; simpa using hS
    have h2 : v.ownBlock ≠ some k := fun e => by have := hv k e; omega
    exact ⟨hrow k hk (by omega) h2, hheap k hk (by omega) h2⟩
theorem kv_len {W : World} {base n cap : Nat} {A : Option Addr} {l : List KV} (h : W.ownsRow base 40 4 (.slice A n cap) n (kvsCells l)) : l.length = n := by
  have := h.1
  have e : ∀ l : List KV, (kvsCells l).length = l.length * 4 := fun l => by
    induction l with
    | nil => rfl
    | cons q t ih => show (kvCells q ++ kvsCells t).length = _; rw [List.length_append, ih, List.length_cons]; show 4 + _ = _; omega
  rw [e] at this
  omega
theorem vh_kids {S S' : Nat → Bool} {W : World} {base n cap : Nat} {A : Option Addr} {l : List KV} (h : W.ownsRow base 40 4 (.slice A n cap) n (kvsCells l)) (hk : KidsIn S W l) (hS : ∀ k, S k = false → S' k = false) (hb : ∀ k, base ≤ k → S' k = false) (has : Bool) :
    VH S' W (.mk 0 [] (l.map KV.v) has) (.agg #[.int .u64 0, .slice none 0 0, .slice A n cap, .bool has]) := by
  have hl := kv_len h
  have hc := row_cap h
  have hf := row_few h
  subst hl
  have hlm : (l.map KV.v).length = l.length := List.length_map _
  rcases Nat.eq_zero_or_pos l.length with h0 | h0
  · have hnil : l = [] := List.eq_nil_of_length_eq_zero h0
    subst hnil
    exact .mk 0 [] [] has none A 0 cap 0 0 (fun _ => .bool false) (fun _ => .bool false) (fun _ => .bool false) (fun _ => .bool false) (by decide) (bytes_nil _) (Nat.le_refl _) (by decide) (Nat.zero_le _) (by decide) (fun h => absurd rfl h) (fun i hi => absurd hi (Nat.not_lt_zero i)) (fun i hi => absurd hi (Nat.not_lt_zero i))
  · obtain ⟨gk, c, hv, _, hbk, hgl, hcell⟩ := row_at h h0
    injection hv with hA _ _
    subst hA
    have hvis : S' gk = false := hb gk hbk
    have hat : ∀ i (hi : i < l.length) (j : Nat), j < 4 → W.cell? ⟨gk, i * 4 + j, none⟩ = (kvCells l[i])[j]? := fun i hi j hj => by
      rw [hcell _ (by omega)]
      exact flat_at kvCells 4 (fun _ => rfl) l i hi j hj
    have hcells : ∀ i (hi : i < l.length) (j : Nat) (u : Value), j < 4 → (kvCells l[i])[j]? = some u → (hideW S' W).cell? ⟨gk, 0 + i * 4 + j, none⟩ = some u := fun i hi j u hj hu => by
      rw [hide_cell S' W _ hvis, Nat.zero_add, hat i hi j hj]
      exact hu
    suffices z : VH S' W (.mk 0 [] (l.map KV.v) has) (.agg #[.int .u64 0, .slice none 0 0, .slice (some ⟨gk, 0, none⟩) (l.map KV.v).length cap, .bool has]) by
      rw [hlm] at z
      exact z
    refine .mk 0 [] (l.map KV.v) has none (some ⟨gk, 0, none⟩) 0 cap gk 0 (fun i => (l.getD i ⟨nilV, .bool false, .bool false, .bool false, .bool false⟩).c0) (fun i => (l.getD i ⟨nilV, .bool false, .bool false, .bool false, .bool false⟩).c1) (fun i => (l.getD i ⟨nilV, .bool false, .bool false, .bool false, .bool false⟩).c2) (fun i => (l.getD i ⟨nilV, .bool false, .bool false, .bool false, .bool false⟩).c3) (by decide) (bytes_nil _) (Nat.le_refl _) (by decide) (by rw [hlm]; exact hc) (by rw [hlm]; omega) (fun _ => rfl) (fun i hi => ?_) (fun i hi => ?_)
    · rw [hlm] at hi
      have e : l.getD i ⟨nilV, .bool false, .bool false, .bool false, .bool false⟩ = l[i] := by rw [List.getD, List.getElem?_eq_getElem hi, Option.getD_some]
      simp only [e]
      exact ⟨hcells i hi 0 _ (by decide) rfl, hcells i hi 1 _ (by decide) rfl, hcells i hi 2 _ (by decide) rfl, hcells i hi 3 _ (by decide) rfl⟩
    · have hi' : i < l.length := by rw [hlm] at hi; exact hi
      have e : l.getD i ⟨nilV, .bool false, .bool false, .bool false, .bool false⟩ = l[i] := by rw [List.getD, List.getElem?_eq_getElem hi', Option.getD_some]
      simp only [e, List.getElem_map]
      exact (hk l[i] (List.getElem_mem hi')).step (Nat.le_refl _) (fun k _ hSk => ⟨hS k hSk, rfl⟩)
theorem fieldsP_all (f : Nat → Int → Int → PV → Bool) : ∀ (xs : List CFld) (ks : List PV), xs.length = ks.length → (∀ i (hx : i < xs.length) (hk : i < ks.length), f xs[i].kind xs[i].ref xs[i].lists ks[i] = true) → fieldsP f xs ks = true
  | [], _, _, _ => rfl
  | _ :: _, [], h, _ => by simp at h
  | x :: xs, k :: ks, h, ha => by
    show (f x.kind x.ref x.lists k && fieldsP f xs ks) = true
    rw [show f x.kind x.ref x.lists k = true from ha 0 (by simp) (by simp), fieldsP_all f xs ks (by simpa using h) (fun i hx hk => ha (i + 1) (by simpa using hx) (by simpa using hk))]
    rfl
def KidsSmall (l : List KV) : Prop := ∀ q ∈ l, SmallV q.v
theorem KidsSmall.snoc {l : List KV} {q : KV} (h : KidsSmall l) (hq : SmallV q.v) : KidsSmall (l ++ [q]) := fun p hp => by
  rcases List.mem_append.1 hp with h1 | h1
  · exact h p h1
  · rw [List.mem_singleton.1 h1]; exact hq
theorem KidsSmall.val {l : List KV} (h : KidsSmall l) (hl : l.length ≤ 100) (has : Bool) : SmallV (.mk 0 [] (l.map KV.v) has) := .mk 0 [] _ has (by decide) (by rw [List.length_map]; exact hl) (fun v hv => by obtain ⟨q, hq, rfl⟩ := List.mem_map.1 hv; exact h q hq)
def KidsSW (i1 i2 : Nat) (l : List KV) : Prop := KidsSmall l ∧ i1 ≤ i2 ∧ WtL (l.map KV.v) (101 * l.length + 1700 * (i2 - i1))
theorem KidsSW.nil (i1 : Nat) : KidsSW i1 i1 [] := ⟨fun q hq => absurd hq List.not_mem_nil, Nat.le_refl _, (by show WtL [] (101 * 0 + 1700 * (i1 - i1)); rw [Nat.sub_self]; exact WtL.nil)⟩
theorem KidsSW.snoc {i1 i2 i3 n : Nat} {sure : Bool} {l : List KV} {q : KV} (h : KidsSW i1 i2 l) (hq : SmallV q.v ∧ WtIn sure n i2 i3 q.v) (hs : sure = false ∨ i2 < n) (hi : i2 ≤ i3) : KidsSW i1 i3 (l ++ [q]) := by
  obtain ⟨m, hm, _, hm2⟩ := hq.2
  have h1 := hm2 hs
  have h2 := h.2.1
  refine ⟨h.1.snoc hq.1, by omega, ?_⟩
  rw [List.map_append, List.length_append]
  exact h.2.2.snoc hm (by simp only [List.length_cons, List.length_nil]; omega)
theorem KidsSW.val {i i1 i2 n : Nat} {sure : Bool} {l : List KV} (h : KidsSW i1 i2 l) (hl : l.length ≤ 16) (hi : i ≤ i1) (hm : i < n → i1 = i + 1) (hs : sure = true ∨ i1 < n) (has : Bool) : SmallV (.mk 0 [] (l.map KV.v) has) ∧ WtIn sure n i i2 (.mk 0 [] (l.map KV.v) has) := by
  have h2 := h.2.1
  refine ⟨h.1.val (by omega) has, _, h.2.2.val 0 [] has, by simp only [List.length_nil]; omega, fun h3 => ?_⟩
  have h4 : i < n := by
    rcases h3 with h3 | h3
    · rcases hs with h5 | h5
      · rw [h3] at h5; cases h5
      · omega
    · exact h3
  have h5 := hm h4
  simp only [List.length_nil]
  omega
def KidsSWL (n i1 i2 : Nat) (l : List KV) : Prop := KidsSW i1 i2 l ∧ (l ≠ [] → i1 < n)
theorem KidsSWL.nil (n i1 : Nat) : KidsSWL n i1 i1 [] := ⟨KidsSW.nil i1, fun h => absurd rfl h⟩
theorem KidsSWL.snoc {i1 i2 i3 n : Nat} {sure : Bool} {l : List KV} {q : KV} (h : KidsSWL n i1 i2 l) (hq : SmallV q.v ∧ WtIn sure n i2 i3 q.v) (hs : i2 < n) (hi : i2 ≤ i3) : KidsSWL n i1 i3 (l ++ [q]) := ⟨h.1.snoc hq (.inr hs) hi, fun _ => by have := h.1.2.1; omega⟩
theorem KidsSWL.val {i i1 i2 n : Nat} {sure : Bool} {l : List KV} (h : KidsSWL n i1 i2 l) (hl : l.length ≤ 4) (hi : i ≤ i1) (hm : i < n → i1 = i + 1) (has : Bool) : SmallV (.mk 0 [] (l.map KV.v) has) ∧ WtIn sure n i i2 (.mk 0 [] (l.map KV.v) has) := by
  have h2 := h.1.2.1
  refine ⟨h.1.1.val (by omega) has, _, h.1.2.2.val 0 [] has, by simp only [List.length_nil]; omega, fun _ => ?_⟩
  simp only [List.length_nil]
  rcases Nat.eq_zero_or_pos l.length with h0 | h0
  · omega
  · have h3 := h.2 (fun e => by rw [e] at h0; simp at h0)
    have h5 := hm (by omega)
    omega
def KidsFit (SS : List CRec) (ES : List SCho) (room : Nat) (xs : List SFld) (l : List KV) : Prop := ∀ i (hx : i < xs.length) (hk : i < l.length), fitsP SS ES room xs[i].kind xs[i].ref xs[i].lists l[i].v = true
theorem KidsFit.snoc {SS : List CRec} {ES : List SCho} {room j : Nat} {xs : List SFld} {l : List KV} {q : KV} (h : KidsFit SS ES room xs l) (hj : l.length = j) (hx : j < xs.length) (hq : fitsP SS ES room xs[j].kind xs[j].ref xs[j].lists q.v = true) : KidsFit SS ES room xs (l ++ [q]) := by
  intro i hi hk
  rcases Nat.lt_or_ge i l.length with h1 | h1
  · rw [List.getElem_append_left h1]
    exact h i hi h1
  · have : i = j := by rw [List.length_append] at hk; simp at hk; omega
    subst this
    rw [List.getElem_append_right h1]
    simpa [hj] using hq
theorem fits_struct {ss : List (SRec × Value)} {es : List SCho} {room r : Nat} {l : List KV} (hr : r < ss.length) (hl : l.length = ss[r].1.fields.length) (h : KidsFit ((crow ss).map Prod.fst) es room ss[r].1.fields l) : fitsP ((crow ss).map Prod.fst) es (room + 1) 13 r 0 (.mk 0 [] (l.map KV.v) true) = true := by
  have hlen : ((crow ss).map Prod.fst).length = ss.length := by rw [List.length_map, crow_length]
  have hget : ((crow ss).map Prod.fst).getD ((r : Nat) : Int).toNat ⟨⟨#[]⟩, []⟩ = cR ss[r].1 := by
    rw [Int.toNat_natCast, crow_fst, List.getD, List.getElem?_map, List.getElem?_map, List.getElem?_eq_getElem hr]
    rfl
  rw [fitsP_eq, show sortP 13 0 = 4 from rfl]
  show (bareP 4 _ && (!true || structP _ es (room + 1) r (l.map KV.v))) = true
  unfold structP
  rw [hlen, hget, decide_eq_true ⟨by omega, by omega⟩]
  have hfl : (cR ss[r].1).fields = ss[r].1.fields.map cF := rfl
  rw [hfl, decide_eq_true (show (l.map KV.v).length = (ss[r].1.fields.map cF).length by rw [List.length_map, List.length_map, hl])]
  rw [fieldsP_all _ _ _ (by rw [List.length_map, List.length_map, hl]) (fun i hx hk => by
    simp only [List.getElem_map]
    exact h i (by simpa using hx) (by simpa using hk))]
  rfl
def ElsFit (SS : List CRec) (ES : List SCho) (room k r lm : Nat) (l : List KV) : Prop := ∀ q ∈ l, fitsP SS ES room k r lm q.v = true ∧ (k = 13 → lm = 0 → q.v.has = true)
theorem ElsFit.snoc {SS : List CRec} {ES : List SCho} {room k r lm : Nat} {l : List KV} {q : KV} (h : ElsFit SS ES room k r lm l) (h1 : fitsP SS ES room k r lm q.v = true) (h2 : k = 13 → lm = 0 → q.v.has = true) : ElsFit SS ES room k r lm (l ++ [q]) := fun p hp => by
  rcases List.mem_append.1 hp with h3 | h3
  · exact h p h3
  · rw [List.mem_singleton.1 h3]
    exact ⟨h1, h2⟩
theorem fits_list {SS : List CRec} {ES : List SCho} {left k r lm l : Nat} {ks : List KV} (hl : l = lm + 1) (h : ElsFit SS ES (left - 1) k r lm ks) (h0 : ks ≠ [] → left ≠ 0) : fitsP SS ES left k r l (.mk 0 [] (ks.map KV.v) false) = true := by
  have hs : sortP k (l : Int) = 3 := by unfold sortP; rw [if_pos (by omega)]
  have hls : (l : Int) - 1 = (lm : Int) := by omega
  rw [fitsP_eq, hs, hls]
  show (bareP 3 _ && (ks.map KV.v).all (kidOk SS ES left k r lm)) = true
  rw [show bareP 3 (.mk 0 [] (ks.map KV.v) false) = true by simp [bareP, PV.num, PV.bytes, PV.kids, PV.has], Bool.true_and, List.all_eq_true]
  intro v hv
  obtain ⟨q, hq, rfl⟩ := List.mem_map.1 hv
  obtain ⟨h1, h2⟩ := h q hq
  have hne : left ≠ 0 := h0 (fun e => by subst e; cases hq)
  unfold kidOk
  rw [decide_eq_false hne, h1]
  by_cases h4 : sortP k (lm : Int) = 4
  · have h5 : k = 13 ∧ lm = 0 := by
      unfold sortP at h4
      split at h4
      · cases h4
      split at h4
      · cases h4
      split at h4
      · cases h4
      split at h4
      · cases h4
      split at h4
      · rename_i a b _ _ c
        exact ⟨c, by omega⟩
      · cases h4
    rw [h2 h5.1 h5.2]
    simp
  · simp [h4]
end Go.Proofs.YtiknhkkeifemcaaGreatDoor
namespace Go.Proofs.YtiknhkkeifemcaaGreatDoor
open Go.ChangeShapes Go.WideShapes Go.ChangeAt Go.RowKit Go.Shelf

structure Meth (d : Nat) (T : TypeId) (r : Value) (name : String) (f : FuncId) (rv : Value) : Prop where
  finds : ∀ (N : Nat) (W : World), (method (N + d) T r name).run Tryz.prog W = .ok (f, rv) W
  enters : ∀ (args : Array Value) (W : World), (callFunc f args).run Tryz.prog W = .ok (.enter f args) W
theorem Meth.at {d : Nat} {T : TypeId} {r : Value} {name : String} {f : FuncId} {rv : Value} (h : Meth d T r name f rv) (hd : d ≤ 2) (M : Nat) (W : World) (hN : M = Tryz.prog.types.size + Made.depth) : (method M T r name).run Tryz.prog W = .ok (f, rv) W := by
  obtain ⟨N, rfl⟩ : ∃ N, M = N + d := by
    generalize Tryz.prog.types.size = s at hN
    have h2 : 2 ≤ Made.depth := by decide
    exact ⟨M - d, by omega⟩
  exact h.finds N W
def Says (d : Nat) (w : World) (v : Value) (name : String) (i : Int) (Q : World → Ending → World → Prop) : Prop :=
  ∃ T r f rv, v = .iface T r ∧ Meth d T r name f rv ∧ ∀ W, Below w.heap.size w W → Calls Tryz.prog f #[rv, .int .i64 i] W fun e w' => Q W e w' ∧ Below W.heap.size W w'
def SubQ (next : World → Value → Nat → Int → Int → PV → Prop) (b : Bool) (k : Nat) (ref lists : Int) (q : PV) (e : Ending) (w' : World) : Prop :=
  (∃ sv, e = .returned (if b = true then .tuple #[sv, .bool true] else sv) ∧ next w' sv k ref lists q) ∨ (b = true ∧ e = .returned (.tuple #[.nilIface, .bool false]) ∧ q = nilV)
def dep (b : Bool) : Nat := if b = true then 2 else 1
structure AskOk (next : World → Value → Nat → Int → Int → PV → Prop) (b : Bool) (w : World) (v : Value) (i k : Nat) (ref lists : Int) (q : PV) : Prop where
  sort : 1 ≤ sortP k lists
  num : sortP k lists = 1 → q = numV q.num ∧ (q.num : Int) ≤ 18446744073709551615 ∧ Says (dep b) w v "Num" i (fun _ e _ => e = .returned (.int .u64 q.num))
  bytes : sortP k lists = 2 → q = .mk 0 q.bytes [] false ∧ q.bytes.length ≤ 1000000 ∧ Says (dep b) w v "Bytes" i (fun _ e w' => ∃ A c, e = .returned (.slice A q.bytes.length c) ∧ Bytes w' A q.bytes)
  list : sortP k lists = 3 → Says (dep b) w v "List" i (fun _ e w' => ∃ lv, e = .returned lv ∧ next w' lv k ref lists q)
  sub : sortP k lists = 4 → Says (dep b) w v "Sub" i (fun _ e w' => SubQ next b k ref lists q e w')
theorem AskOk.iface {next : World → Value → Nat → Int → Int → PV → Prop} {b : Bool} {w : World} {v : Value} {i k : Nat} {ref lists : Int} {q : PV} (h : AskOk next b w v i k ref lists q) : ∃ T r, v = .iface T r := by
  have h1 := h.sort
  have h2 : sortP k lists ≤ 4 := by unfold sortP; split <;> (try split) <;> (try split) <;> (try split) <;> (try split) <;> omega
  have h3 : sortP k lists = 1 ∨ sortP k lists = 2 ∨ sortP k lists = 3 ∨ sortP k lists = 4 := by omega
  rcases h3 with h3 | h3 | h3 | h3
  · obtain ⟨_, _, T, r, _, _, hv, _⟩ := h.num h3
    exact ⟨T, r, hv⟩
  · obtain ⟨_, _, T, r, _, _, hv, _⟩ := h.bytes h3
    exact ⟨T, r, hv⟩
  · obtain ⟨T, r, _, _, hv, _⟩ := h.list h3
    exact ⟨T, r, hv⟩
  · obtain ⟨T, r, _, _, hv, _⟩ := h.sub h3
    exact ⟨T, r, hv⟩
structure ListHead (w : World) (v : Value) (q : PV) : Prop where
  bare : q.num = 0 ∧ q.bytes = [] ∧ q.has = false
  few : q.kids.length ≤ 1000000
  len : (v = .nilIface ∧ q.kids = []) ∨ ∃ T r f rv, v = .iface T r ∧ Meth 1 T r "Len" f rv ∧ ∀ W, Below w.heap.size w W → Calls Tryz.prog f #[rv] W fun e w' => e = .returned (.int .i64 q.kids.length) ∧ Below W.heap.size W w'
def recAt (ss : List CRec) (ref : Int) : CRec := ss.getD ref.toNat ⟨⟨#[]⟩, []⟩
structure StructHead (ss : List CRec) (v : Value) (ref : Int) (q : PV) : Prop where
  there : ∃ T r, v = .iface T r
  bare : q.num = 0 ∧ q.bytes = [] ∧ q.has = true
  within : 0 ≤ ref ∧ ref < ss.length
  few : q.kids.length = (recAt ss ref).fields.length
def Shown (ss : List CRec) : Nat → World → Value → Nat → Int → Int → PV → Prop
  | 0, w, v, k, _, lists, q => sortP k lists = 3 ∧ ListHead w v q ∧ q.kids = []
  | r + 1, w, v, k, ref, lists, q =>
    (sortP k lists = 3 ∧ ListHead w v q ∧ ∀ j (hj : j < q.kids.length), AskOk (Shown ss r) false w v j k ref (lists - 1) (q.kids[j]'hj)) ∨
    (sortP k lists = 4 ∧ StructHead ss v ref q ∧ ∀ j (hj : j < q.kids.length) (hf : j < (recAt ss ref).fields.length), AskOk (Shown ss r) true w v j ((recAt ss ref).fields[j]'hf).kind ((recAt ss ref).fields[j]'hf).ref ((recAt ss ref).fields[j]'hf).lists (q.kids[j]'hj))
theorem Says.later {d : Nat} {w w2 : World} {v : Value} {name : String} {i : Int} {Q : World → Ending → World → Prop} (h : Says d w v name i Q) (hb : Below w.heap.size w w2) : Says d w2 v name i Q := by
  obtain ⟨T, r, f, rv, hv, hm, hc⟩ := h
  exact ⟨T, r, f, rv, hv, hm, fun W hW => hc W (hb.trans (hW.mono hb.size))⟩
theorem AskOk.later {next : World → Value → Nat → Int → Int → PV → Prop} {b : Bool} {w w2 : World} {v : Value} {i k : Nat} {ref lists : Int} {q : PV} (h : AskOk next b w v i k ref lists q) (hb : Below w.heap.size w w2) : AskOk next b w2 v i k ref lists q :=
  ⟨h.sort, fun hs => ⟨(h.num hs).1, (h.num hs).2.1, (h.num hs).2.2.later hb⟩, fun hs => ⟨(h.bytes hs).1, (h.bytes hs).2.1, (h.bytes hs).2.2.later hb⟩, fun hs => (h.list hs).later hb, fun hs => (h.sub hs).later hb⟩
theorem ListHead.later {w w2 : World} {v : Value} {q : PV} (h : ListHead w v q) (hb : Below w.heap.size w w2) : ListHead w2 v q :=
  ⟨h.bare, h.few, by
    rcases h.len with h1 | ⟨T, r, f, rv, hv, hm, hc⟩
    · exact .inl h1
    · exact .inr ⟨T, r, f, rv, hv, hm, fun W hW => hc W (hb.trans (hW.mono hb.size))⟩⟩
theorem Shown.later {ss : List CRec} : ∀ (n : Nat) {w w2 : World} {v : Value} {k : Nat} {ref lists : Int} {q : PV}, Shown ss n w v k ref lists q → Below w.heap.size w w2 → Shown ss n w2 v k ref lists q
  | 0, _, _, _, _, _, _, _, h, hb => ⟨h.1, h.2.1.later hb, h.2.2⟩
  | _ + 1, _, _, _, _, _, _, _, h, hb => by
    rcases h with ⟨h1, h2, h3⟩ | ⟨h1, h2, h3⟩
    · exact .inl ⟨h1, h2.later hb, fun j hj => (h3 j hj).later hb⟩
    · exact .inr ⟨h1, h2, fun j hj hf => (h3 j hj hf).later hb⟩
end Go.Proofs.YtiknhkkeifemcaaGreatDoor
