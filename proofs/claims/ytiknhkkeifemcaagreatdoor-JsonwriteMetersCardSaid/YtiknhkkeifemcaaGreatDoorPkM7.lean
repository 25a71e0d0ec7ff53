/-
  A plan that came in, opened. Conditions: those that each theorem names.
-/
import Derived.Test.YtiknhkkeifemcaaGreatDoorPkM1
import Derived.Test.YtiknhkkeifemcaaGreatDoorPkM2
import Derived.Test.YtiknhkkeifemcaaGreatDoorPkM3
import Derived.Deep.AppendSrc
import Derived.Laws.MakeOwn
import Derived.OwnWalk
import Derived.Test.YtiknhkkeifemcaaGreatDoorRows
import Derived.WalkKit
import Derived.ProofKit
import Derived.OpenShut
import Derived.ShutString
import Derived.ChangeOld
import Derived.Below
import Derived.WalkLawsBesides
import Derived.WalkSpells
import Derived.Lib.Hide
import Derived.Outline
import Derived.Handy
import Derived.RegionTactic
import Derived.Deep.Slices
import Derived.Lib.SmallJoins
namespace Go.Proofs.YtiknhkkeifemcaaGreatDoor
open Go.ChangeShapes Go.WideShapes Go.ChangeAt Go.RowKit

section
variable {P : Program} (w : World)
theorem run_append_any (base : Nat) (t tx ty e : TypeId) (i : TypeInfo) (z : Value) (size : Nat) (ht : P.underlying t = some (.slice e)) (hi : P.info? e = some i) (hz : i.zero = some z) (hsize : i.size = size) (hzs : z.cells.size = size)
    (v : Value) (n : Nat) (xs : List Value) (hown : w.ownsRow base e size v n xs) (x : Value) (m : Nat) (news : List Value) (hs : Go.Src P size tx x m news w)
    (h63 : n + m ≤ maxLen) (hbytes : (n + m) * i.bytes ≤ 140737488355328) (hbase : base ≤ w.heap.size) :
    ∃ v' w', (Builtin.append_ #[t, tx] ty #[v, x]).run P w = .ok v' w' ∧ w'.ownsRow base e size v' (n + m) (xs ++ news) ∧ w.grownBy w' v.ownBlock ∧ (v'.ownBlock = v.ownBlock ∨ v'.ownBlock = some w.heap.size) := by
  have hsmall : ((n + m : Nat) : Int) ≤ 9223372036854775807 := by simp only [maxLen] at h63; omega
  have hnl : news.length = m * size := hs.newsLen
  have hxl : xs.length = n * size := hown.1
  have hlen : (xs ++ news).length = (n + m) * size := by rw [List.length_append, hxl, hnl, Nat.add_mul]
  have hs' : Go.Src P i.size tx x m news w := by rw [hsize]; exact hs
  have grown : ∀ (old : Nat) (row : Option Nat),
      (w.drew.alloc (.cells ((xs ++ news).toArray ++ Builtin.zeroCells z.cells (grownCap w (n + m) old e - (n + m))) e)).ownsRow base e size
        (.slice (some ⟨w.heap.size, 0, none⟩) (n + m) (grownCap w (n + m) old e)) (n + m) (xs ++ news) ∧
      w.grownBy (w.drew.alloc (.cells ((xs ++ news).toArray ++ Builtin.zeroCells z.cells (grownCap w (n + m) old e - (n + m))) e)) row := by
    intro old row
    have hge := grownCap_ge w (n + m) old e
    have hcm : grownCap w (n + m) old e ≤ maxLen := grownCap_le_maxLen w (n + m) old e h63
    refine ⟨⟨hlen, .inr ⟨w.heap.size, _, _, rfl, hbase, heap_alloc_new w.drew _, hge, hcm, ?_, ?_⟩⟩, ⟨rfl, rfl, rfl, by simp, fun k hk _ => Below.heap_alloc w.drew _ k hk⟩⟩
    · rw [Array.size_append, List.size_toArray, size_zeroCells, hzs, hlen, ← Nat.add_mul, Nat.add_sub_cancel' hge]
    · simp only [Array.toList_append]
      rw [← hlen]
      exact List.take_left
  rcases hown.2 with ⟨rfl, rfl⟩ | ⟨g, cap, cur, rfl, hbg, hg, hnc, hcm, hcs, htake⟩
  · have hx : xs = [] := List.eq_nil_of_length_eq_zero (by rw [hxl, Nat.zero_mul])
    subst hx
    by_cases hm : m = 0
    · subst hm
      have hn : news = [] := List.eq_nil_of_length_eq_zero (by rw [hnl, Nat.zero_mul])
      subst hn
      refine ⟨.slice none 0 0, w, ?_, World.ownsRow_nil w base e size, ⟨rfl, rfl, rfl, Nat.le_refl _, fun _ _ _ => rfl⟩, .inl rfl⟩
      rcases hs.kind with ⟨e', hk⟩ | hk <;> simp [Builtin.append_, run_underlying ht, run_underlying hk, sizeOf, typeInfo, hi, hs'.len, hs'.cells]
    · have hr := run_append_grow_src (P := P) w t tx ty e i z ht hi hz none 0 0 [] (run_firstCells_none w.drew i.size 0 0 0) x m news hs' (by omega) (by omega) (growslice_fits (by omega) (by simpa using hbytes))
      have hgr := grown 0 (Value.ownBlock (.slice none 0 0))
      exact ⟨_, _, hr, hgr.1, hgr.2, .inr rfl⟩
  · by_cases hroom : n + m ≤ cap
    · have hfit : n * i.size + news.length ≤ cur.size := by
        rw [hsize, hnl, hcs, ← Nat.add_mul]
        exact Nat.mul_le_mul_right _ hroom
      have hst := run_storeCells_at P g (n * i.size) e news 0 cur w hg (by simpa using hfit) hs.one
      simp only [Nat.add_zero] at hst
      have hr : (Builtin.append_ #[t, tx] ty #[.slice (some ⟨g, 0, none⟩) n cap, x]).run P w = .ok (.slice (some ⟨g, 0, none⟩) (n + m) cap) (w.setRow g (cur.toList.take (n * i.size) ++ news ++ cur.toList.drop (n * i.size + news.length)).toArray) := by
        rcases hs.kind with ⟨e', hk⟩ | hk <;> simp [Builtin.append_, run_underlying ht, run_underlying hk, sizeOf, typeInfo, hi, hs'.len, hroom, hs'.cells, Addr.add_lit, hst]
      refine ⟨_, _, hr, ⟨hlen, .inr ⟨g, cap, _, rfl, hbg, setRow_heap w g cur _ e _ hg, hroom, hcm, ?_, ?_⟩⟩, ⟨rfl, rfl, rfl, by simp, fun k _ hk => setRow_other w g k _ (fun e => hk (by simp [Value.ownBlock, e]))⟩, .inl rfl⟩
      · simp only [List.size_toArray, List.length_append, List.length_take, List.length_drop, Array.length_toList]
        rw [← hcs]
        omega
      · rw [hsize, htake, ← hlen]
        exact List.take_left
    · have holds : ∀ j u, xs[j]? = some u → w.cell? ((⟨g, 0, none⟩ : Addr).add j) = some u := hown.cells (g := g) rfl
      have hf := run_firstCells_some (P := P) w.drew i.size n ⟨g, 0, none⟩ n cap xs (by rw [hsize]; exact hown.1) (by simpa using holds)
      have hr := run_append_grow_src (P := P) w t tx ty e i z ht hi hz (some ⟨g, 0, none⟩) n cap xs hf x m news hs' (by omega) hsmall (growslice_fits (by omega) hbytes)
      have hgr := grown cap (Value.ownBlock (.slice (some ⟨g, 0, none⟩) n cap))
      exact ⟨_, _, hr, hgr.1, hgr.2, .inr rfl⟩
theorem wpList_append_any {ops : Array Oper} {rest : List Oper} {o : Oper} {a : Act} {Q : Exit → Act → World → Prop} (hgd : o.guard = none) (s x : Operand) (t tx : TypeId)
    (ho : o.op = .call { callee := .builtin .append, args := #[s, x], argTypes := #[t, tx] })
    (base : Nat) (e : TypeId) (i : TypeInfo) (z : Value) (size : Nat) (ht : P.underlying t = some (.slice e)) (hi : P.info? e = some i) (hz : i.zero = some z) (hsize : i.size = size) (hzs : z.cells.size = size)
    (v : Value) (n : Nat) (xs : List Value) (hs : a.eval s = v) (hown : w.ownsRow base e size v n xs) (y : Value) (m : Nat) (news : List Value) (hx : a.eval x = y) (hr : Go.Src P size tx y m news w)
    (h63 : n + m ≤ maxLen) (hbytes : (n + m) * i.bytes ≤ 140737488355328) (hbase : base ≤ w.heap.size)
    (h : ∀ v' w', w'.ownsRow base e size v' (n + m) (xs ++ news) → w.grownBy w' v.ownBlock → (v'.ownBlock = v.ownBlock ∨ v'.ownBlock = some w.heap.size) → wpList P ops Q rest (a.put o.dst v') w') : wpList P ops Q (o :: rest) a w := by
  refine wpList_plain hgd fun K hK => ?_
  obtain ⟨v', w', hrun, h2, h3, h4⟩ := run_append_any (P := P) w base t tx o.type e i z size ht hi hz hsize hzs v n xs hown y m news hr h63 hbytes hbase
  unfold Oper.wp execOp
  simp only [ho, resolve, invoke, builtin, Sem.run_bind, Sem.run_pure, Result.andThen_ok, List.map_toArray, List.map_cons, List.map_nil, hs, hx, hrun]
  exact hK _ _ (h v' w' h2 h3 h4)
theorem wpList_append_first {ops : Array Oper} {rest : List Oper} {o : Oper} {a : Act} {Q : Exit → Act → World → Prop} (hgd : o.guard = none) (s x : Operand) (t tx : TypeId)
    (ho : o.op = .call { callee := .builtin .append, args := #[s, x], argTypes := #[t, tx] })
    (base : Nat) (e : TypeId) (i : TypeInfo) (z : Value) (size : Nat) (ht : P.underlying t = some (.slice e)) (hi : P.info? e = some i) (hz : i.zero = some z) (hsize : i.size = size) (hzs : z.cells.size = size)
    (v : Value) (hs : a.eval s = v) (hown : w.ownsRow base e size v 0 []) (y : Value) (m : Nat) (news : List Value) (hx : a.eval x = y) (hr : Go.Src P size tx y m news w)
    (h63 : m ≤ maxLen) (hbytes : m * i.bytes ≤ 140737488355328) (hbase : base ≤ w.heap.size)
    (h : ∀ v' w', w'.ownsRow base e size v' m news → w.grownBy w' v.ownBlock → (v'.ownBlock = v.ownBlock ∨ v'.ownBlock = some w.heap.size) → wpList P ops Q rest (a.put o.dst v') w') : wpList P ops Q (o :: rest) a w :=
  wpList_append_any w hgd s x t tx ho base e i z size ht hi hz hsize hzs v 0 [] hs hown y m news hx hr (by rw [Nat.zero_add]; exact h63) (by rw [Nat.zero_add]; exact hbytes) hbase (fun v' w' h2 h3 h4 => h v' w' (by rw [Nat.zero_add, List.nil_append] at h2; exact h2) h3 h4)
end
end Go.Proofs.YtiknhkkeifemcaaGreatDoor
namespace Go.Proofs.YtiknhkkeifemcaaGreatDoor
open Go.RowKit

def decD : Nat → Nat → List Int
  | 0, n => [48 + ((n % 10 : Nat) : Int)]
  | f + 1, n => if n ≤ 9 then [48 + ((n % 10 : Nat) : Int)] else decD f (n / 10) ++ [48 + ((n % 10 : Nat) : Int)]
def decDigs (n : Nat) : List Int := decD 20 n
theorem decD_fuel : ∀ (f g n : Nat), n < 10 ^ (f + 1) → n < 10 ^ (g + 1) → decD f n = decD g n
  | 0, 0, _, _, _ => rfl
  | 0, g + 1, n, hf, _ => by
    simp only [decD]
    rw [if_pos (by omega)]
  | f + 1, 0, n, _, hg => by
    simp only [decD]
    rw [if_pos (by omega)]
  | f + 1, g + 1, n, hf, hg => by
    simp only [decD]
    by_cases h : n ≤ 9
    · rw [if_pos h, if_pos h]
    · rw [if_neg h, if_neg h, decD_fuel f g (n / 10) (by rw [Nat.pow_succ] at hf; omega) (by rw [Nat.pow_succ] at hg; omega)]
theorem decDigs_small {n : Nat} (h : n ≤ 9) : decDigs n = [48 + (n : Int)] := by
  unfold decDigs
  simp only [decD]
  rw [if_pos h, Nat.mod_eq_of_lt (by omega)]
theorem ten20 : maxU < 10 ^ (19 + 1) := by decide
theorem ten21 : 10 ^ (20 + 1) = 10 * 10 ^ (19 + 1) := by decide
theorem decDigs_19 {n : Nat} (hn : n ≤ maxU) : decDigs n = decD 19 n := by
  unfold decDigs
  have h1 := ten20
  have h2 := ten21
  exact decD_fuel 20 19 n (by omega) (by omega)
theorem decDigs_step {n : Nat} (h : 9 < n) (hn : n ≤ maxU) : decDigs n = decDigs (n / 10) ++ [48 + ((n % 10 : Nat) : Int)] := by
  rw [decDigs_19 (show n / 10 ≤ maxU by omega)]
  unfold decDigs
  rw [show decD 20 n = if n ≤ 9 then [48 + ((n % 10 : Nat) : Int)] else decD 19 (n / 10) ++ [48 + ((n % 10 : Nat) : Int)] from rfl]
  rw [if_neg (by omega)]
theorem decD_length : ∀ (f n : Nat), 1 ≤ (decD f n).length ∧ (decD f n).length ≤ f + 1
  | 0, n => by simp [decD]
  | f + 1, n => by
    simp only [decD]
    split
    · simp
    · have := decD_length f (n / 10)
      simp
      omega
section
variable {n : Nat} (hn : n ≤ maxU)
include hn
end
end Go.Proofs.YtiknhkkeifemcaaGreatDoor
namespace Go.Proofs.YtiknhkkeifemcaaGreatDoor
open Go.ChangeShapes Go.WideShapes Go.ChangeAt Go.RowKit

section
variable {P : Program} (w : World)
theorem step_append_run {ops : Array Oper} {o : Oper} {a : Act} {K : Act → World → Prop} {Q : Exit → Act → World → Prop} {E : Prop} (hgd : o.guard = none) (s x : Operand) (t u : TypeId)
    (ho : o.op = .call { callee := .builtin .append, args := #[s, x], argTypes := #[t, u] }) (v y v' : Value) (w' : World) (hs : a.eval s = v) (hx : a.eval x = y) (hr : (Builtin.append_ #[t, u] o.type #[v, y]).run P w = .ok v' w') (h : K (a.put o.dst v') w') :
    if Region.wanted o (yielded ops a.tmps) = true then Oper.wp P o a w K Q else E := by
  have hw : Region.wanted o (yielded ops a.tmps) = true := by simp [Region.wanted, hgd]
  rw [if_pos hw]
  unfold Oper.wp execOp
  simp only [ho, resolve, invoke, builtin, Sem.run_bind, Sem.run_pure, Result.andThen_ok, List.map_toArray, List.map_cons, List.map_nil, hs, hx, hr]
  exact h
end
end Go.Proofs.YtiknhkkeifemcaaGreatDoor
namespace Go.Proofs.YtiknhkkeifemcaaGreatDoor
open Go.ChangeShapes Go.WideShapes Go.ChangeAt Go.RowKit

theorem exists_list {α : Type} (P : Nat → α → Prop) (d : α) : ∀ (n : Nat), (∀ r, r < n → ∃ x, P r x) → ∃ L : List α, L.length = n ∧ ∀ r, r < n → P r (L.getD r d)
  | 0, _ => ⟨[], rfl, fun r hr => absurd hr (Nat.not_lt_zero r)⟩
  | n + 1, h => by
    obtain ⟨L, hL, hP⟩ := exists_list P d n (fun r hr => h r (by omega))
    obtain ⟨x, hx⟩ := h n (Nat.lt_succ_self n)
    refine ⟨L ++ [x], by simp [hL], fun r hr => ?_⟩
    rcases Nat.lt_or_ge r n with h1 | h1
    · rw [List.getD, List.getElem?_append_left (by omega), ← List.getD]
      exact hP r h1
    · obtain rfl : r = n := by omega
      rw [List.getD, List.getElem?_append_right (by omega), hL, Nat.sub_self]
      exact hx
theorem list_five' : ∀ {cs : List Value}, cs.length = 5 → ∃ v0 v1 v2 v3 v4, cs = [v0, v1, v2, v3, v4]
  | [v0, v1, v2, v3, v4], _ => ⟨v0, v1, v2, v3, v4, rfl⟩
theorem list_one' : ∀ {cs : List Value}, cs.length = 1 → ∃ v0, cs = [v0]
  | [v0], _ => ⟨v0, rfl⟩
theorem nat_u8 {m : Int} (h : (Lit.int .u8 m).wf = true) : ∃ k : Nat, m = k ∧ k ≤ 255 := by
  obtain ⟨h0, h1⟩ := bounds_u8 h
  exact ⟨m.toNat, by omega, by omega⟩
theorem nat_u64 {m : Int} (h : (Lit.int .u64 m).wf = true) : ∃ k : Nat, m = k ∧ (k : Int) ≤ 18446744073709551615 := by
  obtain ⟨h0, h1⟩ := bounds_u64 h
  exact ⟨m.toNat, by omega, by omega⟩
theorem open_int1' {H : Type} {enc : TypeId × Value → H} {W : World} {t : TypeId} {k : IntKind} {n : Nat} {v : Value} {xs : List (DataW H × List MemPlace)} {i : Nat} (ht : Tryz.prog.underlying t = some (.int k)) (hi : i < xs.length) (h : DataW.trod enc Tryz.prog W 0 (fun _ => true) true n t [v] = xs[i]?) : ∃ m, v = .int k m ∧ (Lit.int k m).wf = true := by
  rw [List.getElem?_eq_getElem hi] at h
  obtain ⟨m, h1, _, h2⟩ := DataW.trod_int ht h
  exact ⟨m, by simpa using h1, h2⟩
def PFLies (W : World) (a : Option Addr) (k : Nat) (f : PF) : Prop :=
  ∃ b' off', a = some ⟨b', off', none⟩ ∧ b' < W.heap.size ∧ W.cell? ⟨b', off' + k * 5, none⟩ = some (.int .u8 (f.kind : Nat)) ∧ W.cell? ⟨b', off' + k * 5 + 1, none⟩ = some (.int .u8 (f.lists : Nat)) ∧ W.cell? ⟨b', off' + k * 5 + 2, none⟩ = some (.int .u8 (f.ref : Nat)) ∧ W.cell? ⟨b', off' + k * 5 + 3, none⟩ = some (.int .u8 (f.name : Nat)) ∧ W.cell? ⟨b', off' + k * 5 + 4, none⟩ = some (.int .u64 (f.dflt : Nat)) ∧
    f.kind ≤ 255 ∧ f.lists ≤ 255 ∧ f.ref ≤ 255 ∧ f.name ≤ 255 ∧ (f.dflt : Int) ≤ 18446744073709551615
theorem open_fields {H : Type} {enc : TypeId × Value → H} {W : World} {n : Nat} {v : Value} {x : DataW H × List MemPlace} (h : DataW.trod enc Tryz.prog W 0 (fun _ => true) true n 93 [v] = some x) :
    ∃ a m c, v = .slice a m c ∧ m ≤ c ∧ c ≤ maxLen ∧ ∃ l : List PF, l.length = m ∧ ∀ k, k < m → PFLies W a k (l.getD k noPF) := by
  rcases Deep.open_slice Tryz.underlying93 h with ⟨hcs, _⟩ | ⟨y, l, c, m, n', Ds, Pl, hcs, _, hl, hm, hmm, _, hx⟩
  · simp at hcs
    subst hcs
    exact ⟨none, 0, 0, rfl, Nat.le_refl _, Nat.zero_le _, [], rfl, fun k hk => absurd hk (Nat.not_lt_zero k)⟩
  · simp at hcs
    subst hcs
    simp only [if_true] at hmm
    have c5 : Tryz.prog.cellsOf 95 = 5 := by kernel_rfl
    rw [c5] at hx
    refine ⟨some y, l, c, rfl, hl, hm, exists_list _ noPF l (fun r hlt => ?_)⟩
    obtain ⟨cs, h1, h2⟩ := hx r (by omega)
    obtain ⟨_, hcl, hc⟩ := World.cells?_some h1
    obtain ⟨_, hcl0, hc0⟩ := World.cells?_some (hx 0 (by omega)).choose_spec.1
    obtain ⟨b, off, spot⟩ := y
    have hspot : spot = none := by
      have h0 := hc0 0 (by omega)
      rw [List.getElem?_eq_getElem (by omega)] at h0
      simpa [Addr.add] using World.cell?_spot h0
    subst hspot
    obtain ⟨xs, n2, _, _, _, hxl, hfs⟩ := DataW.trod_struct Tryz.underlying95 h2
    obtain ⟨v0, v1, v2, v3, v4, rfl⟩ := list_five' hcl
    have k8 : Tryz.prog.cellsOf 5 = 1 := by kernel_rfl
    have k64 : Tryz.prog.cellsOf 37 = 1 := by kernel_rfl
    have f0 : DataW.trod enc Tryz.prog W 0 (fun _ => true) true n2 5 (([v0, v1, v2, v3, v4].drop 0).take (Tryz.prog.cellsOf 5)) = xs[0]? := hfs 0 _ rfl
    rw [k8] at f0
    have f1 : DataW.trod enc Tryz.prog W 0 (fun _ => true) true n2 5 (([v0, v1, v2, v3, v4].drop 1).take (Tryz.prog.cellsOf 5)) = xs[1]? := hfs 1 _ rfl
    rw [k8] at f1
    have f2 : DataW.trod enc Tryz.prog W 0 (fun _ => true) true n2 5 (([v0, v1, v2, v3, v4].drop 2).take (Tryz.prog.cellsOf 5)) = xs[2]? := hfs 2 _ rfl
    rw [k8] at f2
    have f3 : DataW.trod enc Tryz.prog W 0 (fun _ => true) true n2 5 (([v0, v1, v2, v3, v4].drop 3).take (Tryz.prog.cellsOf 5)) = xs[3]? := hfs 3 _ rfl
    rw [k8] at f3
    have f4 : DataW.trod enc Tryz.prog W 0 (fun _ => true) true n2 37 (([v0, v1, v2, v3, v4].drop 4).take (Tryz.prog.cellsOf 37)) = xs[4]? := hfs 4 _ rfl
    rw [k64] at f4
    have hx5 : xs.length = 5 := hxl
    obtain ⟨z0, rfl, w0⟩ := open_int1' Tryz.underlying5 (by omega) f0
    obtain ⟨z1, rfl, w1⟩ := open_int1' Tryz.underlying5 (by omega) f1
    obtain ⟨z2, rfl, w2⟩ := open_int1' Tryz.underlying5 (by omega) f2
    obtain ⟨z3, rfl, w3⟩ := open_int1' Tryz.underlying5 (by omega) f3
    obtain ⟨z4, rfl, w4⟩ := open_int1' Tryz.underlying37 (by omega) f4
    obtain ⟨q0, rfl, l0⟩ := nat_u8 w0
    obtain ⟨q1, rfl, l1⟩ := nat_u8 w1
    obtain ⟨q2, rfl, l2⟩ := nat_u8 w2
    obtain ⟨q3, rfl, l3⟩ := nat_u8 w3
    obtain ⟨q4, rfl, l4⟩ := nat_u64 w4
    have hcell : ∀ i, i < 5 → W.cell? ⟨b, off + r * 5 + i, none⟩ = [Value.int .u8 q0, .int .u8 q1, .int .u8 q2, .int .u8 q3, .int .u64 q4][i]? := fun i hi => by
      have := hc i hi
      rw [Deep.add_add, Go.WideShapes.add_plain, ← Nat.add_assoc] at this
      exact this
    have e0 := hcell 0 (by omega)
    exact ⟨⟨q0, q1, q2, q3, q4⟩, b, off, rfl, World.block_lt_of_cell? _ _ e0, e0, hcell 1 (by omega), hcell 2 (by omega), hcell 3 (by omega), hcell 4 (by omega), l0, l1, l2, l3, l4⟩
theorem open_structs {H : Type} {enc : TypeId × Value → H} {W : World} {n : Nat} {v : Value} {x : DataW H × List MemPlace} (h : DataW.trod enc Tryz.prog W 0 (fun _ => true) true n 23 [v] = some x) :
    ∃ a1 n1 c1, v = .slice a1 n1 c1 ∧ n1 ≤ c1 ∧ c1 ≤ maxLen ∧ ∃ L : List (List PF), L.length = n1 ∧ ∀ r, r < n1 → ∃ b off a m c, a1 = some ⟨b, off, none⟩ ∧ b < W.heap.size ∧ W.cell? ⟨b, off + r, none⟩ = some (.slice a m c) ∧ (L.getD r []).length = m ∧ m ≤ c ∧ c ≤ maxLen ∧ ∀ k, k < m → PFLies W a k ((L.getD r []).getD k noPF) := by
  rcases Deep.open_slice Tryz.underlying23 h with ⟨hcs, _⟩ | ⟨y, l, c, m, n', Ds, Pl, hcs, _, hl, hm, hmm, _, hx⟩
  · simp at hcs
    subst hcs
    exact ⟨none, 0, 0, rfl, Nat.le_refl _, Nat.zero_le _, [], rfl, fun k hk => absurd hk (Nat.not_lt_zero k)⟩
  · simp at hcs
    subst hcs
    simp only [if_true] at hmm
    have c1 : Tryz.prog.cellsOf 93 = 1 := by kernel_rfl
    rw [c1] at hx
    refine ⟨some y, l, c, rfl, hl, hm, ?_⟩
    refine exists_list (fun r (q : List PF) => ∃ b off a m c, some y = some ⟨b, off, none⟩ ∧ b < W.heap.size ∧ W.cell? ⟨b, off + r, none⟩ = some (.slice a m c) ∧ q.length = m ∧ m ≤ c ∧ c ≤ maxLen ∧ ∀ k, k < m → PFLies W a k (q.getD k noPF)) [] l (fun r hlt => ?_)
    obtain ⟨cs, h1, h2⟩ := hx r (by omega)
    obtain ⟨_, hcl, hc⟩ := World.cells?_some h1
    obtain ⟨_, hcl0, hc0⟩ := World.cells?_some (hx 0 (by omega)).choose_spec.1
    obtain ⟨b, off, spot⟩ := y
    have hspot : spot = none := by
      have h0 := hc0 0 (by omega)
      rw [List.getElem?_eq_getElem (by omega)] at h0
      simpa [Addr.add] using World.cell?_spot h0
    subst hspot
    obtain ⟨v0, rfl⟩ := list_one' hcl
    obtain ⟨a, m', c', rfl, g1, g2, q, g3, g4⟩ := open_fields h2
    have e0 : W.cell? ⟨b, off + r, none⟩ = some (.slice a m' c') := by
      have := hc 0 (by omega)
      rw [Deep.add_add, Go.WideShapes.add_plain, Nat.add_zero, Nat.mul_one] at this
      exact this
    exact ⟨q, b, off, a, m', c', rfl, World.block_lt_of_cell? _ _ e0, e0, g3, g1, g2, g4⟩
set_option maxRecDepth 100000 in
theorem open_plan {H : Type} {enc : TypeId × Value → H} {W : World} {base : Nat} {v : Value} {d : DataW H} {p : List MemPlace} (hv : Value.okWide Tryz.prog W .any base 25 v) (h : DataW.Trod enc Tryz.prog W 0 (fun _ => true) true 25 v d p) :
    ∃ (q : Plan) (a0 : Option Addr) (n0 e0 : Nat) (a1 : Option Addr) (n1 c1 : Nat), v = .agg #[.slice a0 n0 e0, .slice a1 n1 c1, .int .u8 q.root, .bool q.tree] ∧ IsPlan W q a0 n0 e0 a1 n1 c1 := by
  obtain ⟨v0, v1, v2, v3, y0, y1, y2, y3, n, rfl, rfl, rfl, h0, h1, h2, h3⟩ := Joins.open_agg4 Tryz.underlying25 (by kernel_rfl) (by kernel_rfl) hv h
  obtain ⟨m2, e2, _, w2⟩ := DataW.trod_int Tryz.underlying5 h2
  obtain ⟨b3, e3, _⟩ := DataW.trod_bool Tryz.underlying4 h3
  simp at e2 e3
  subst e2
  subst e3
  obtain ⟨rt, rfl, hrt⟩ := nat_u8 w2
  obtain ⟨a0, n0, e0, zs, hv0, hrow⟩ : ∃ a0 n0 e0 zs, v0 = .slice a0 n0 e0 ∧ IsRow .u8 W a0 n0 e0 zs := by
    rcases open_ints Tryz.underlying22 Tryz.underlying5 (by kernel_rfl) h0 with ⟨hcs, _⟩ | ⟨x, l, c, zs, hcs, _, hl, hm, hz, _, hcell, hwz⟩
    · exact ⟨none, 0, 0, [], by simpa using hcs, isRow_nil _ _ _⟩
    · exact ⟨some x, l, c, zs, by simpa using hcs, isRow_of hl hm (by simpa using hz) hcell hwz⟩
  subst hv0
  obtain ⟨a1, n1, c1, rfl, hn1, hc1, L, hL, hLs⟩ := open_structs h1
  refine ⟨⟨(zs.take n0).map Int.toNat, L, rt, b3⟩, a0, n0, e0, a1, n1, c1, rfl, ?_, hL, ⟨hrow.1, hrow.2.1⟩, ⟨hn1, hc1⟩, hrt, ?_, ?_⟩
  · have h1 := hrow.1
    have h2 := hrow.2.2.1
    simp
    omega
  · intro j hj
    have g1 := hrow.1
    have g2 := hrow.2.2.1
    have hjz : j < zs.length := by omega
    have hw := hrow.2.2.2.1 _ (List.getElem_mem hjz)
    obtain ⟨k, hk, hk2⟩ := nat_u8 hw
    have he : ((zs.take n0).map Int.toNat).getD j 0 = k := by
      rw [List.getD, List.getElem?_map, List.getElem?_take, if_pos hj, List.getElem?_eq_getElem hjz, hk]
      simp
    obtain ⟨b, off, ha, hb, hcell⟩ := hrow.2.2.2.2 (by intro e; rw [e] at hjz; simp at hjz)
    show ((zs.take n0).map Int.toNat).getD j 0 ≤ 255 ∧ _
    rw [he]
    refine ⟨hk2, b, off, ha, hb, ?_⟩
    rw [hcell j hjz, List.getD, List.getElem?_eq_getElem hjz, Option.getD_some, hk]
  · intro r hr
    obtain ⟨b, off, a, m, c, ha, hb, hcell, hlen, hm, hc, hfl⟩ := hLs r hr
    refine ⟨b, off, a, m, c, ha, hb, hcell, hlen, hm, hc, fun k hk => ?_⟩
    obtain ⟨b', off', g⟩ := hfl k hk
    exact ⟨b', off', _, rfl, g⟩
end Go.Proofs.YtiknhkkeifemcaaGreatDoor
