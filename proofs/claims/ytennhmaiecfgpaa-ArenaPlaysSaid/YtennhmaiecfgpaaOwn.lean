/-
  An append onto a row of the call's own, its source a slice that is nil, empty or not; a slice of bytes copied whole; what is known of a row of bytes that the call owns. Conditions: those that each theorem names.
-/
import Derived.Test.YtennhmaiecfgpaaBase
import Derived.Laws.AppendOwn
import Derived.Laws.AppendOwnNone
import Derived.Deep.AppendLies
import Derived.OwnWalk
namespace Go.Proofs.Ytennhmaiecfgpaa
open Go.ChangeShapes Go.WideShapes Go.ChangeAt Go.RowKit

/-- A slice of one-cell elements that is read: nil, or its cells stand behind its address. -/
def SrcRow (w : World) (A : Option Addr) (m c : Nat) (news : List Value) : Prop :=
  news.length = m ∧ (∀ u ∈ news, u.oneCell' = true) ∧ ((A = none ∧ m = 0 ∧ c = 0) ∨ ∃ ad, A = some ad ∧ ∀ j u, news[j]? = some u → w.cell? (ad.add j) = some u)
theorem wpList_append_row {P : Program} {w : World} {ops : Array Oper} {rest : List Oper} {o : Oper} {a : Act} {Q : Exit → Act → World → Prop} (hgd : o.guard = none) (s x : Operand) (t : TypeId)
    (ho : o.op = .call { callee := .builtin .append, args := #[s, x], argTypes := #[t, t] })
    (base : Nat) (e : TypeId) (i : TypeInfo) (z : Value) (bytes : Nat) (ht : P.underlying t = some (.slice e)) (hi : P.info? e = some i) (hz : i.zero = some z)
    (hsize : i.size = 1) (hby : i.bytes = bytes) (hzs : z.cells.size = 1)
    (v : Value) (n : Nat) (xs : List Value) (hs : a.eval s = v) (hown : w.ownsRow base e 1 v n xs)
    (A : Option Addr) (m c : Nat) (news : List Value) (hx : a.eval x = .slice A m c) (hr : SrcRow w A m c news)
    (h63 : n + m ≤ maxLen) (hbytes : (n + m) * bytes ≤ 140737488355328) (hbase : base ≤ w.heap.size)
    (h : ∀ v' w', w'.ownsRow base e 1 v' (n + m) (xs ++ news) → w.grownBy w' v.ownBlock → (v' = .slice none 0 0 ↔ v = .slice none 0 0 ∧ m = 0) → wpList P ops Q rest (a.put o.dst v') w') : wpList P ops Q (o :: rest) a w := by
  obtain ⟨hl, h1, hA⟩ := hr
  rcases hA with ⟨rfl, rfl, rfl⟩ | ⟨ad, rfl, hc⟩
  · have hn : news = [] := List.eq_nil_of_length_eq_zero hl
    subst hn
    refine wpList_append_own_none hgd s x t ho base e i 1 ht hi v n xs hs hown hx (h v w ?_ (World.grownBy.refl w _) ⟨fun hv => ⟨hv, rfl⟩, fun hv => hv.1⟩)
    simpa using hown
  · exact wpList_append_own w hgd s x t ho base e i z 1 bytes ht hi hz hsize hby hzs (by decide) v n xs hs hown ad m c news hx (by simpa using hl) hc h1 h63 hbytes hbase h

/-- Bytes as cells. -/
def u8s (zs : List Int) : List Value := zs.map (Value.int .u8)
theorem IsRow.src {w w' : World} {a : Option Addr} {len cap : Nat} {zs : List Int} (h : IsRow .u8 w a len cap zs) (hb : Below w.heap.size w w') : SrcRow w' a len cap (u8s (zs.take len)) := by
  obtain ⟨hl, _, hz, _, hp⟩ := h
  refine ⟨by simp [u8s]; omega, fun u hu => ?_, ?_⟩
  · obtain ⟨z, _, rfl⟩ := List.mem_map.1 hu
    rfl
  · cases a with
    | none =>
      have h0 : zs.length = 0 := by
        rcases Nat.eq_zero_or_pos zs.length with h | h
        · exact h
        · obtain ⟨_, _, e, _⟩ := hp (by intro h'; rw [h'] at h; simp at h)
          cases e
      exact .inl ⟨rfl, by omega, by omega⟩
    | some ad =>
      refine .inr ⟨ad, rfl, fun j u hu => ?_⟩
      have hj : j < len ∧ j < zs.length := by
        have := (List.getElem?_eq_some_iff.1 hu).1
        simp [u8s] at this
        omega
      obtain ⟨b, off, e, hlt, hc⟩ := hp (by intro h; rw [h] at hj; simp at hj)
      injection e with e
      subst e
      have h1 := (hb.cell (p := ⟨b, off + j, none⟩) hlt).trans (hc j hj.2)
      have h2 : (u8s (zs.take len))[j]? = some (Value.int .u8 (zs.getD j 0)) := by
        simp [u8s, List.getD, hj.1, hj.2]
      rw [h2] at hu
      rw [Go.WideShapes.add_plain, h1]
      exact hu
/-- A slice of bytes in a block of the call's own: its bytes are zs. -/
def OwnB (w : World) (base : Nat) (v : Value) (zs : List Int) : Prop :=
  ∃ g cap, v = .slice (some ⟨g, 0, none⟩) zs.length cap ∧ base ≤ g ∧ g < w.heap.size ∧ zs.length ≤ cap ∧ cap ≤ maxLen ∧ (∀ i, i < zs.length → w.cell? ⟨g, i, none⟩ = some (.int .u8 (zs.getD i 0))) ∧ (∀ i, w.frozen? ⟨g, i, none⟩ = false)
theorem ownB_of_row {w : World} {base : Nat} {v : Value} {n : Nat} {zs : List Int} {e : TypeId} (h : w.ownsRow base e 1 v n (u8s zs)) (hne : v ≠ .slice none 0 0) : OwnB w base v zs := by
  obtain ⟨hl, h'⟩ := h
  rcases h' with ⟨rfl, _⟩ | ⟨g, cap, cur, rfl, hb, hg, hn, hm, hs, ht⟩
  · exact absurd rfl hne
  · have hn' : n = zs.length := by simpa [u8s] using hl.symm
    subst hn'
    have hlt : g < w.heap.size := by
      rcases Nat.lt_or_ge g w.heap.size with h | h
      · exact h
      · rw [Array.getElem?_eq_none h] at hg; cases hg
    refine ⟨g, cap, rfl, hb, hlt, hn, hm, fun i hi => ?_, fun i => ?_⟩
    · have h1 : (cur.toList.take (zs.length * 1))[i]? = some (Value.int .u8 (zs.getD i 0)) := by
        rw [ht]; simp [u8s, List.getD, hi]
      rw [Nat.mul_one, List.getElem?_take, if_pos hi] at h1
      rw [cell_of_row w g i cur e (0, 0) hg]
      simpa using h1
    · simp [World.frozen?, hg]
theorem bytes_wf {zs : List Int} (h : ∀ n ∈ zs, (Lit.int .u8 n).wf = true) : ∀ i, 0 ≤ zs.getD i 0 ∧ zs.getD i 0 ≤ 255 := by
  intro i
  by_cases hi : i < zs.length
  · have hm : zs.getD i 0 ∈ zs := by simp [List.getD, hi]
    exact bounds_u8 (h _ hm)
  · simp [List.getD, List.getElem?_eq_none (Nat.le_of_not_lt hi)]
theorem take_wf {zs : List Int} {m : Nat} (h : ∀ n ∈ zs, (Lit.int .u8 n).wf = true) : ∀ n ∈ zs.take m, (Lit.int .u8 n).wf = true := fun x hx => h x (List.mem_of_mem_take hx)
/-- 'append([]byte{}, b...)': the bytes of b in a block of the call's own. -/
theorem wpList_clone {P : Program} {w : World} {ops : Array Oper} {rest : List Oper} {o : Oper} {a : Act} {Q : Exit → Act → World → Prop} (hgd : o.guard = none) (s x : Operand) (t : TypeId)
    (ho : o.op = .call { callee := .builtin .append, args := #[s, x], argTypes := #[t, t] })
    (e : TypeId) (i : TypeInfo) (z : Value) (ht : P.underlying t = some (.slice e)) (hi : P.info? e = some i) (hz : i.zero = some z) (hsize : i.size = 1) (hby : i.bytes = 1) (hzs : z.cells.size = 1)
    (base g : Nat) (hbg : base ≤ g) (hblk : w.heap[g]? = some (.cells #[] e (0, 0))) (hs : a.eval s = .slice (some ⟨g, 0, none⟩) 0 0)
    (A : Option Addr) (m c : Nat) (zs : List Int) (hx : a.eval x = .slice A m c) (hr : SrcRow w A m c (u8s zs)) (hm : m ≤ 140737488355328) (hbase : base ≤ w.heap.size)
    (h : ∀ v' w', OwnB w' base v' zs → Below base w w' → wpList P ops Q rest (a.put o.dst v') w') : wpList P ops Q (o :: rest) a w := by
  have hown : w.ownsRow base e 1 (.slice (some ⟨g, 0, none⟩) 0 0) 0 [] := ⟨by simp, .inr ⟨g, 0, #[], rfl, hbg, hblk, Nat.le_refl _, Nat.zero_le _, rfl, rfl⟩⟩
  refine wpList_append_row hgd s x t ho base e i z 1 ht hi hz hsize hby hzs _ 0 [] hs hown A m c (u8s zs) hx hr (by unfold maxLen; omega) (by omega) hbase ?_
  intro v' w' hown' hg hnil
  refine h v' w' ?_ ?_
  · rw [Nat.zero_add, List.nil_append] at hown'
    exact ownB_of_row hown' (fun hv => by
      have := (hnil.1 hv).1
      cases this)
  · refine (Below.refl _ _).grown hg hbase (fun k hk => ?_)
    have : g = k := by simpa [Value.ownBlock] using hk
    omega
theorem u8_info : (Try.prog.info? 5).map (fun i => (i.zero, i.size, i.bytes)) = some (some (.int .u8 0), 1, 1) := by kernel_rfl
end Go.Proofs.Ytennhmaiecfgpaa
