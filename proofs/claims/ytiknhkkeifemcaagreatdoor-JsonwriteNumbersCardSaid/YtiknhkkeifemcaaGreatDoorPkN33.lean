/-
  A value that fits, in memory: its view shows it, by the value's own blocks. Conditions: those that each theorem names.
-/
import Derived.Test.YtiknhkkeifemcaaGreatDoorPkN32
namespace Go.Proofs.YtiknhkkeifemcaaGreatDoor
open Go.ChangeShapes Go.WideShapes Go.ChangeAt Go.RowKit Go.Shelf

theorem fieldsP_atS {f : Nat → Int → Int → PV → Bool} : ∀ {fs : List CFld} {vs : List PV}, fieldsP f fs vs = true → ∀ (j : Nat) (hf : j < fs.length) (hv : j < vs.length), f (fs[j]'hf).kind (fs[j]'hf).ref (fs[j]'hf).lists (vs[j]'hv) = true
  | [], _, _, j, hf, _ => absurd hf (Nat.not_lt_zero j)
  | _ :: _, [], _, j, _, hv => absurd hv (Nat.not_lt_zero j)
  | x :: xs, v :: vs, h, j, hf, hv => by
    unfold fieldsP at h
    rw [Bool.and_eq_true] at h
    cases j with
    | zero => exact h.1
    | succ j => exact fieldsP_atS h.2 j (by simpa using hf) (by simpa using hv)
theorem structP_parts {ss : List CRec} {es : List SCho} {room : Nat} {ref : Int} {ks : List PV} (h : structP ss es room ref ks = true) : (0 ≤ ref ∧ ref < ss.length) ∧ ∃ r, room = r + 1 ∧ ks.length = (recAt ss ref).fields.length ∧ fieldsP (fitsP ss es r) (recAt ss ref).fields ks = true := by
  unfold structP at h
  rw [Bool.and_eq_true, Bool.and_eq_true, Bool.and_eq_true] at h
  obtain ⟨h1, h2, h3, h4⟩ := h
  have h2' : room ≠ 0 := by simpa using h2
  obtain ⟨r, rfl⟩ : ∃ r, room = r + 1 := ⟨room - 1, by omega⟩
  exact ⟨of_decide_eq_true h1, r, rfl, of_decide_eq_true h3, h4⟩
def asI (b : Bool) (val : Value) : Value := if b = true then viewI val else itemsI val
def SeesL (ss : List CRec) (es : List SCho) (room : Nat) : Prop := ∀ (S : Nat → Bool) (n : Nat) (w : World) (v : PV) (val : Value) (k : Nat) (ref lists : Int), (∀ j, S j = false → j < n) → n ≤ w.heap.size → VH S w v val → SmallV v → fitsP ss es room k ref lists v = true → sortP k lists = 3 → ShownD ss room (NotS S) w (itemsI val) k ref lists v
def SeesS (ss : List CRec) (es : List SCho) (room : Nat) : Prop := ∀ (S : Nat → Bool) (n : Nat) (w : World) (v : PV) (val : Value) (k : Nat) (ref lists : Int), (∀ j, S j = false → j < n) → n ≤ w.heap.size → VH S w v val → SmallV v → fitsP ss es room k ref lists v = true → sortP k lists = 4 → v.has = true → ShownD ss room (NotS S) w (viewI val) k ref lists v
theorem ask_of {ss : List CRec} {es : List SCho} {r : Nat} (hL : SeesL ss es r) (hS : SeesS ss es r) (b : Bool) (S : Nat → Bool) (n : Nat) (w : World) (v : PV) (val : Value) (hn : ∀ j, S j = false → j < n) (hw : n ≤ w.heap.size) (hv : VH S w v val) (hsm : SmallV v) (j : Nat) (hj : j < v.kids.length) (k : Nat) (ref lists : Int) (hf : fitsP ss es r k ref lists (v.kids[j]'hj) = true) (hb : b = false → sortP k lists = 4 → (v.kids[j]'hj).has = true) :
    AskD (ShownD ss r) (NotS S) b w (asI b val) j k ref lists (v.kids[j]'hj) := by
  have hk : kidP v (j : Int) = v.kids[j]'hj := kidP_at v j hj
  have hsq : SmallV (v.kids[j]'hj) := hsm.kids.2.2 _ (List.getElem_mem hj)
  obtain ⟨ba, ka, bc, kc, hval, hnum, _, _, _, _, _, hks⟩ := hv.formH
  obtain ⟨_, _, u0, u1, u2, u3, _, _, _, _, _, hkv⟩ := hks j hj
  have hqn : ((v.kids[j]'hj).num : Int) ≤ 18446744073709551615 := by
    obtain ⟨_, _, _, _, _, h2, _⟩ := hkv.formH
    omega
  have hqb := hkv.out.bts
  have hq0 := hsq.kids.1
  rw [← hk] at hf hb hqn hqb hq0 hsq ⊢
  clear hkv hks
  obtain ⟨q, hq⟩ : ∃ q, kidP v (j : Int) = q := ⟨_, rfl⟩
  rw [hq] at hf hb hqn hqb hq0 hsq ⊢
  clear hk
  subst hval
  have hsort := fits_sort hf
  have hD : ∀ (W w' : World), OutD (NotS S) w W → Below W.heap.size W w' → ∀ i, NotS S i → (NotS S i ∨ W.heap.size ≤ i) ∧ i < w'.heap.size := fun W w' hW hb i hi => ⟨.inl hi, by
    have h1 := hn i hi
    have h2 := hW.size
    have h3 := hb.size
    omega⟩
  have hle : ∀ (W w' : World), OutD (NotS S) w W → Below W.heap.size W w' → n ≤ w'.heap.size := fun W w' hW hb => by
    have h2 := hW.size
    have h3 := hb.size
    omega
  cases b with
  | true =>
    refine ⟨?_, fun h1 => ?_, fun h2 => ?_, fun h3 => ?_, fun h4 => ?_⟩
    · rcases hsort with ⟨h, _⟩ | ⟨h, _⟩ | ⟨h, _⟩ | ⟨h, _⟩ <;> omega
    · have hqe : q = numV q.num := by
        rcases hsort with ⟨_, h⟩ | ⟨h, _⟩ | ⟨h, _⟩ | ⟨h, _⟩
        · exact h
        · omega
        · omega
        · omega
      refine ⟨hqe, hqn, _, _, _, _, rfl, meth_vNum _ _ _ _, fun W hW => ?_⟩
      have h := num_any W v _ (hv.stays hW).out (j : Int)
      rw [hq] at h
      exact h
    · have hqe : q = .mk 0 q.bytes [] false := by
        rcases hsort with ⟨h, _⟩ | ⟨_, h⟩ | ⟨h, _⟩ | ⟨h, _⟩
        · omega
        · exact h
        · omega
        · omega
      refine ⟨hqe, by omega, _, _, _, _, rfl, meth_vBytes _ _ _ _, fun W hW => ?_⟩
      have h := vbytes_any W v _ (hv.stays hW).out (j : Int) (by rw [hq]; omega)
      rw [hq] at h
      refine h.mono ?_
      rintro e w' ⟨⟨u, rfl, hu⟩, hb2⟩
      obtain ⟨A, c, rfl, hfr⟩ := fresh_of hu hqb
      exact ⟨⟨A, c, rfl, hfr⟩, hb2⟩
    · refine ⟨_, _, _, _, rfl, meth_vList _ _ _ _, fun W hW => ?_⟩
      have h := vlistof_vh W v _ (hv.stays hW) (j : Int)
      rw [hq] at h
      refine h.mono ?_
      rintro e w' ⟨⟨kv, rfl, hkv⟩, hb2⟩
      exact ⟨⟨_, rfl, NotS S, hD W w' hW hb2, hL S n w' q kv k ref lists hn (hle W w' hW hb2) hkv hsq hf h3⟩, hb2⟩
    · refine ⟨_, _, _, _, rfl, meth_vSub _, fun W hW => ?_⟩
      have h := vsub_vh W v _ (hv.stays hW) (j : Int)
      rw [hq] at h
      refine h.mono ?_
      rintro e w' ⟨⟨kv, rfl, hhas, hkv⟩ | ⟨rfl, hhas⟩, hb2⟩
      · exact ⟨.inl ⟨_, rfl, NotS S, hD W w' hW hb2, hS S n w' q kv k ref lists hn (hle W w' hW hb2) hkv hsq hf h4 hhas⟩, hb2⟩
      · refine ⟨.inr ⟨rfl, rfl, ?_⟩, hb2⟩
        rcases hsort with ⟨h, _⟩ | ⟨h, _⟩ | ⟨h, _⟩ | ⟨_, ⟨_, h⟩ | ⟨h, _⟩⟩
        · omega
        · omega
        · omega
        · exact h
        · rw [hhas] at h
          cases h
  | false =>
    refine ⟨?_, fun h1 => ?_, fun h2 => ?_, fun h3 => ?_, fun h4 => ?_⟩
    · rcases hsort with ⟨h, _⟩ | ⟨h, _⟩ | ⟨h, _⟩ | ⟨h, _⟩ <;> omega
    · have hqe : q = numV q.num := by
        rcases hsort with ⟨_, h⟩ | ⟨h, _⟩ | ⟨h, _⟩ | ⟨h, _⟩
        · exact h
        · omega
        · omega
        · omega
      refine ⟨hqe, hqn, _, _, _, _, rfl, meth_iNum _ _ _ _, fun W hW => ?_⟩
      have h := num_any W v _ (hv.stays hW).out (j : Int)
      rw [hq] at h
      exact h
    · have hqe : q = .mk 0 q.bytes [] false := by
        rcases hsort with ⟨h, _⟩ | ⟨_, h⟩ | ⟨h, _⟩ | ⟨h, _⟩
        · omega
        · exact h
        · omega
        · omega
      refine ⟨hqe, by omega, _, _, _, _, rfl, meth_iBytes _ _ _ _, fun W hW => ?_⟩
      have h := vbytes_any W v _ (hv.stays hW).out (j : Int) (by rw [hq]; omega)
      rw [hq] at h
      refine h.mono ?_
      rintro e w' ⟨⟨u, rfl, hu⟩, hb2⟩
      obtain ⟨A, c, rfl, hfr⟩ := fresh_of hu hqb
      exact ⟨⟨A, c, rfl, hfr⟩, hb2⟩
    · refine ⟨_, _, _, _, rfl, meth_iList _ _ _ _, fun W hW => ?_⟩
      have h := vlistof_vh W v _ (hv.stays hW) (j : Int)
      rw [hq] at h
      refine h.mono ?_
      rintro e w' ⟨⟨kv, rfl, hkv⟩, hb2⟩
      exact ⟨⟨_, rfl, NotS S, hD W w' hW hb2, hL S n w' q kv k ref lists hn (hle W w' hW hb2) hkv hsq hf h3⟩, hb2⟩
    · refine ⟨_, _, _, _, rfl, meth_iSub _, fun W hW => ?_⟩
      have h := velem_vh W v _ (hv.stays hW) (j : Int)
      rw [hq] at h
      refine h.mono ?_
      rintro e w' ⟨⟨kv, rfl, hkv⟩, hb2⟩
      exact ⟨.inl ⟨_, rfl, NotS S, hD W w' hW hb2, hS S n w' q kv k ref lists hn (hle W w' hW hb2) hkv hsq hf h4 (hb rfl h4)⟩, hb2⟩
theorem sees_step {ss : List CRec} {es : List SCho} {room : Nat} (hk : ∀ r, room = r + 1 → SeesL ss es r ∧ SeesS ss es r) : SeesL ss es room ∧ SeesS ss es room := by
  constructor
  · intro S n w v val k ref lists hn hw hv hsm hf hs
    have hsort := fits_sort hf
    obtain ⟨hbare, hall⟩ : (v.num = 0 ∧ v.bytes = [] ∧ v.has = false) ∧ v.kids.all (kidOk ss es room k ref (lists - 1)) = true := by
      rcases hsort with ⟨h, _⟩ | ⟨h, _⟩ | ⟨_, h1, h2⟩ | ⟨h, _⟩
      · omega
      · omega
      · exact ⟨h1, h2⟩
      · omega
    have hhead : ListHeadD (NotS S) w (itemsI val) v := ⟨hbare, by have := hsm.kids.2.1; omega, .inr ⟨_, _, _, _, rfl, meth_iLen _, fun W hW => vlen_any W v val (hv.stays hW).out⟩⟩
    have hok : ∀ q ∈ v.kids, kidOk ss es room k ref (lists - 1) q = true := List.all_eq_true.1 hall
    cases room with
    | zero =>
      refine ⟨hs, hhead, ?_⟩
      cases hks : v.kids with
      | nil => rfl
      | cons q l =>
        obtain ⟨r, hr, _⟩ := kidOk_parts (hok q (by rw [hks]; exact List.mem_cons_self))
        omega
    | succ r =>
      obtain ⟨hL, hS⟩ := hk r rfl
      refine .inl ⟨hs, hhead, fun j hj => ?_⟩
      obtain ⟨r', hr, h4, hfk⟩ := kidOk_parts (hok _ (List.getElem_mem hj))
      obtain rfl : r' = r := by omega
      exact ask_of hL hS false S n w v val hn hw hv hsm j hj k ref (lists - 1) hfk (fun _ => h4)
  · intro S n w v val k ref lists hn hw hv hsm hf hs hhas
    obtain ⟨hnum, hbts, hst⟩ : v.num = 0 ∧ v.bytes = [] ∧ structP ss es room ref v.kids = true := by
      rcases fits_sort hf with ⟨h, _⟩ | ⟨h, _⟩ | ⟨h, _⟩ | ⟨_, ⟨h, _⟩ | ⟨_, h1, h2, h3⟩⟩
      · omega
      · omega
      · omega
      · rw [hhas] at h
        cases h
      · exact ⟨h1, h2, h3⟩
    obtain ⟨href, r, rfl, hlen, hfs⟩ := structP_parts hst
    obtain ⟨hL, hS⟩ := hk r rfl
    refine .inr ⟨hs, ⟨⟨_, _, rfl⟩, ⟨hnum, hbts, hhas⟩, href, hlen⟩, fun j hj hf => ?_⟩
    exact ask_of hL hS true S n w v val hn hw hv hsm j hj _ _ _ (fieldsP_atS hfs j hf hj) (fun h => by cases h)
theorem sees_all (ss : List CRec) (es : List SCho) : ∀ room, SeesL ss es room ∧ SeesS ss es room
  | 0 => sees_step (fun r hr => by omega)
  | room + 1 => sees_step (fun r hr => by
    obtain rfl : r = room := by omega
    exact sees_all ss es r)
end Go.Proofs.YtiknhkkeifemcaaGreatDoor
