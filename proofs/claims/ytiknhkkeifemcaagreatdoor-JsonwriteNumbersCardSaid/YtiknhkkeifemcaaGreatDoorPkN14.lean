/-
  The library's sort that keeps the order of what is alike, of fewer than twenty numbers: they come out in their order. Conditions: those that each theorem names.
-/
import Derived.Test.YtiknhkkeifemcaaGreatDoorPkN1
import Derived.Test.YtiknhkkeifemcaaGreatDoorPkN9
import Derived.Deep.AppendSrc
import Derived.Laws.MakeOwn
import Derived.OwnWalk
import Derived.Test.YtiknhkkeifemcaaGreatDoorRows
import Derived.WalkKit
import Derived.ProofKit
import Derived.OpenShut
import Derived.ShutString
import Derived.ChangeOld
import Derived.Below
import Derived.WalkLawsBesides
import Derived.WalkSpells
import Derived.Lib.Hide
import Derived.Outline
import Derived.Handy
namespace Go.Proofs.YtiknhkkeifemcaaGreatDoor
open Go.ChangeShapes Go.WideShapes Go.ChangeAt Go.RowKit

section
variable {P : Program} (w : World)
theorem run_append_any (base : Nat) (t tx ty e : TypeId) (i : TypeInfo) (z : Value) (size : Nat) (ht : P.underlying t = some (.slice e)) (hi : P.info? e = some i) (hz : i.zero = some z) (hsize : i.size = size) (hzs : z.cells.size = size)
    (v : Value) (n : Nat) (xs : List Value) (hown : w.ownsRow base e size v n xs) (x : Value) (m : Nat) (news : List Value) (hs : Go.Src P size tx x m news w)
    (h63 : n + m ≤ maxLen) (hbytes : (n + m) * i.bytes ≤ 140737488355328) (hbase : base ≤ w.heap.size) :
    ∃ v' w', (Builtin.append_ #[t, tx] ty #[v, x]).run P w = .ok v' w' ∧ w'.ownsRow base e size v' (n + m) (xs ++ news) ∧ w.grownBy w' v.ownBlock ∧ (v'.ownBlock = v.ownBlock ∨ v'.ownBlock = some w.heap.size) := by
  have hsmall : ((n + m : Nat) : Int) ≤ 9223372036854775807 := by simp only [maxLen] at h63; omega
  have hnl : news.length = m * size := hs.newsLen
  have hxl : xs.length = n * size := hown.1
  have hlen : (xs ++ news).length = (n + m) * size := by rw [List.length_append, hxl, hnl, Nat.add_mul]
  have hs' : Go.Src P i.size tx x m news w := by rw [hsize]; exact hs
  have grown : ∀ (old : Nat) (row : Option Nat),
      (w.drew.alloc (.cells ((xs ++ news).toArray ++ Builtin.zeroCells z.cells (grownCap w (n + m) old e - (n + m))) e)).ownsRow base e size
        (.slice (some ⟨w.heap.size, 0, none⟩) (n + m) (grownCap w (n + m) old e)) (n + m) (xs ++ news) ∧
      w.grownBy (w.drew.alloc (.cells ((xs ++ news).toArray ++ Builtin.zeroCells z.cells (grownCap w (n + m) old e - (n + m))) e)) row := by
    intro old row
    have hge := grownCap_ge w (n + m) old e
    have hcm : grownCap w (n + m) old e ≤ maxLen := grownCap_le_maxLen w (n + m) old e h63
    refine ⟨⟨hlen, .inr ⟨w.heap.size, _, _, rfl, hbase, heap_alloc_new w.drew _, hge, hcm, ?_, ?_⟩⟩, ⟨rfl, rfl, rfl, by simp, fun k hk _ => Below.heap_alloc w.drew _ k hk⟩⟩
    · rw [Array.size_append, List.size_toArray, size_zeroCells, hzs, hlen, ← Nat.add_mul, Nat.add_sub_cancel' hge]
    · simp only [Array.toList_append]
      rw [← hlen]
      exact List.take_left
  rcases hown.2 with ⟨rfl, rfl⟩ | ⟨g, cap, cur, rfl, hbg, hg, hnc, hcm, hcs, htake⟩
  · have hx : xs = [] := List.eq_nil_of_length_eq_zero (by rw [hxl, Nat.zero_mul])
    subst hx
    by_cases hm : m = 0
    · subst hm
      have hn : news = [] := List.eq_nil_of_length_eq_zero (by rw [hnl, Nat.zero_mul])
      subst hn
      refine ⟨.slice none 0 0, w, ?_, World.ownsRow_nil w base e size, ⟨rfl, rfl, rfl, Nat.le_refl _, fun _ _ _ => rfl⟩, .inl rfl⟩
      rcases hs.kind with ⟨e', hk⟩ | hk <;> simp [Builtin.append_, run_underlying ht, run_underlying hk, sizeOf, typeInfo, hi, hs'.len, hs'.cells]
    · have hr := run_append_grow_src (P := P) w t tx ty e i z ht hi hz none 0 0 [] (run_firstCells_none w.drew i.size 0 0 0) x m news hs' (by omega) (by omega) (growslice_fits (by omega) (by simpa using hbytes))
      have hgr := grown 0 (Value.ownBlock (.slice none 0 0))
      exact ⟨_, _, hr, hgr.1, hgr.2, .inr rfl⟩
  · by_cases hroom : n + m ≤ cap
    · have hfit : n * i.size + news.length ≤ cur.size := by
        rw [hsize, hnl, hcs, ← Nat.add_mul]
        exact Nat.mul_le_mul_right _ hroom
      have hst := run_storeCells_at P g (n * i.size) e news 0 cur w hg (by simpa using hfit) hs.one
      simp only [Nat.add_zero] at hst
      have hr : (Builtin.append_ #[t, tx] ty #[.slice (some ⟨g, 0, none⟩) n cap, x]).run P w = .ok (.slice (some ⟨g, 0, none⟩) (n + m) cap) (w.setRow g (cur.toList.take (n * i.size) ++ news ++ cur.toList.drop (n * i.size + news.length)).toArray) := by
        rcases hs.kind with ⟨e', hk⟩ | hk <;> simp [Builtin.append_, run_underlying ht, run_underlying hk, sizeOf, typeInfo, hi, hs'.len, hroom, hs'.cells, Addr.add_lit, hst]
      refine ⟨_, _, hr, ⟨hlen, .inr ⟨g, cap, _, rfl, hbg, setRow_heap w g cur _ e _ hg, hroom, hcm, ?_, ?_⟩⟩, ⟨rfl, rfl, rfl, by simp, fun k _ hk => setRow_other w g k _ (fun e => hk (by simp [Value.ownBlock, e]))⟩, .inl rfl⟩
      · simp only [List.size_toArray, List.length_append, List.length_take, List.length_drop, Array.length_toList]
        rw [← hcs]
        omega
      · rw [hsize, htake, ← hlen]
        exact List.take_left
    · have holds : ∀ j u, xs[j]? = some u → w.cell? ((⟨g, 0, none⟩ : Addr).add j) = some u := hown.cells (g := g) rfl
      have hf := run_firstCells_some (P := P) w.drew i.size n ⟨g, 0, none⟩ n cap xs (by rw [hsize]; exact hown.1) (by simpa using holds)
      have hr := run_append_grow_src (P := P) w t tx ty e i z ht hi hz (some ⟨g, 0, none⟩) n cap xs hf x m news hs' (by omega) hsmall (growslice_fits (by omega) hbytes)
      have hgr := grown cap (Value.ownBlock (.slice (some ⟨g, 0, none⟩) n cap))
      exact ⟨_, _, hr, hgr.1, hgr.2, .inr rfl⟩
theorem wpList_append_any {ops : Array Oper} {rest : List Oper} {o : Oper} {a : Act} {Q : Exit → Act → World → Prop} (hgd : o.guard = none) (s x : Operand) (t tx : TypeId)
    (ho : o.op = .call { callee := .builtin .append, args := #[s, x], argTypes := #[t, tx] })
    (base : Nat) (e : TypeId) (i : TypeInfo) (z : Value) (size : Nat) (ht : P.underlying t = some (.slice e)) (hi : P.info? e = some i) (hz : i.zero = some z) (hsize : i.size = size) (hzs : z.cells.size = size)
    (v : Value) (n : Nat) (xs : List Value) (hs : a.eval s = v) (hown : w.ownsRow base e size v n xs) (y : Value) (m : Nat) (news : List Value) (hx : a.eval x = y) (hr : Go.Src P size tx y m news w)
    (h63 : n + m ≤ maxLen) (hbytes : (n + m) * i.bytes ≤ 140737488355328) (hbase : base ≤ w.heap.size)
    (h : ∀ v' w', w'.ownsRow base e size v' (n + m) (xs ++ news) → w.grownBy w' v.ownBlock → (v'.ownBlock = v.ownBlock ∨ v'.ownBlock = some w.heap.size) → wpList P ops Q rest (a.put o.dst v') w') : wpList P ops Q (o :: rest) a w := by
  refine wpList_plain hgd fun K hK => ?_
  obtain ⟨v', w', hrun, h2, h3, h4⟩ := run_append_any (P := P) w base t tx o.type e i z size ht hi hz hsize hzs v n xs hown y m news hr h63 hbytes hbase
  unfold Oper.wp execOp
  simp only [ho, resolve, invoke, builtin, Sem.run_bind, Sem.run_pure, Result.andThen_ok, List.map_toArray, List.map_cons, List.map_nil, hs, hx, hrun]
  exact hK _ _ (h v' w' h2 h3 h4)
theorem wpList_append_first {ops : Array Oper} {rest : List Oper} {o : Oper} {a : Act} {Q : Exit → Act → World → Prop} (hgd : o.guard = none) (s x : Operand) (t tx : TypeId)
    (ho : o.op = .call { callee := .builtin .append, args := #[s, x], argTypes := #[t, tx] })
    (base : Nat) (e : TypeId) (i : TypeInfo) (z : Value) (size : Nat) (ht : P.underlying t = some (.slice e)) (hi : P.info? e = some i) (hz : i.zero = some z) (hsize : i.size = size) (hzs : z.cells.size = size)
    (v : Value) (hs : a.eval s = v) (hown : w.ownsRow base e size v 0 []) (y : Value) (m : Nat) (news : List Value) (hx : a.eval x = y) (hr : Go.Src P size tx y m news w)
    (h63 : m ≤ maxLen) (hbytes : m * i.bytes ≤ 140737488355328) (hbase : base ≤ w.heap.size)
    (h : ∀ v' w', w'.ownsRow base e size v' m news → w.grownBy w' v.ownBlock → (v'.ownBlock = v.ownBlock ∨ v'.ownBlock = some w.heap.size) → wpList P ops Q rest (a.put o.dst v') w') : wpList P ops Q (o :: rest) a w :=
  wpList_append_any w hgd s x t tx ho base e i z size ht hi hz hsize hzs v 0 [] hs hown y m news hx hr (by rw [Nat.zero_add]; exact h63) (by rw [Nat.zero_add]; exact hbytes) hbase (fun v' w' h2 h3 h4 => h v' w' (by rw [Nat.zero_add, List.nil_append] at h2; exact h2) h3 h4)
end
end Go.Proofs.YtiknhkkeifemcaaGreatDoor
namespace Go.Proofs.YtiknhkkeifemcaaGreatDoor
open Go.ChangeShapes Go.WideShapes Go.ChangeAt Go.RowKit Go.Shelf

def natC (l : List Nat) : List Value := l.map fun n : Nat => Value.int .i64 (n : Int)
def RowN (w : World) (g : Nat) (l : List Nat) : Prop := w.heap[g]? = some (.cells (natC l).toArray 3 (0, 0))
theorem RowN.at {w : World} {g : Nat} {l : List Nat} (h : RowN w g l) (k : Nat) (hk : k < l.length) : w.cell? ⟨g, k, none⟩ = some (.int .i64 (l[k] : Nat)) ∧ w.frozen? ⟨g, k, none⟩ = false := by
  refine ⟨?_, blk_frozen h k⟩
  rw [blk_cell h k]
  simp [natC, hk]
theorem RowN.set {w : World} {g : Nat} {l : List Nat} (h : RowN w g l) (k x : Nat) : RowN (w.setCell ⟨g, k, none⟩ (.int .i64 (x : Int))) g (l.set k x) := by
  refine (blk_set h k _).trans ?_
  simp [natC, List.map_set]
structure CmpQ (g n : Nat) (w : World) (gf : FuncId) (lb : Array Value) (cf : Nat → Nat → Int) : Prop where
  enters : ∀ args w, (callFunc gf args).run Tryz.prog w = .ok (.enter gf args) w
  gives : ∀ (W : World) (a b : Nat), a < n → b < n → Exc g w.heap.size w W → Calls Tryz.prog gf (#[.int .i64 (a : Int), .int .i64 (b : Int)] ++ lb) W fun e w' => e = .returned (.int .i64 (cf a b)) ∧ ∃ q, w' = W.drewN q
theorem exc_drewN {R B : Nat} {w W : World} (h : Exc R B w W) (q : Nat) : Exc R B w (W.drewN q) := ⟨h.os, h.tape, h.output, h.size, h.block⟩
structure InsI (lt : Nat → Nat → Bool) (n i : Nat) (pre post l : List Nat) : Prop where
  sort : pre ++ post = sortD lt i
  past : ∀ p ∈ post, lt i p = true
  is : l = pre ++ i :: (post ++ List.range' (i + 1) (n - (i + 1)))
theorem InsI.len {lt : Nat → Nat → Bool} {n i : Nat} {pre post l : List Nat} (h : InsI lt n i pre post l) (hi : i < n) : l.length = n := by
  have h1 := congrArg List.length h.sort
  rw [sortD_len, List.length_append] at h1
  rw [h.is]
  simp
  omega
theorem InsI.small {lt : Nat → Nat → Bool} {n i : Nat} {pre post l : List Nat} (h : InsI lt n i pre post l) : ∀ p ∈ pre, p < i := fun p hp => (sortD_mem lt i p).1 (by rw [← h.sort]; exact List.mem_append_left _ hp)
theorem ins_start (lt : Nat → Nat → Bool) {n i : Nat} (hi : i < n) : InsI lt n i (sortD lt i) [] (sortD lt i ++ List.range' i (n - i)) := by
  refine ⟨by simp, fun p hp => (by cases hp), ?_⟩
  rw [show n - i = (n - (i + 1)) + 1 by omega, List.range'_succ]
  rfl
theorem ins_go {lt : Nat → Nat → Bool} {n i y : Nat} {pre post l : List Nat} (h : InsI lt n i (pre ++ [y]) post l) (hl : lt i y = true) : InsI lt n i pre (y :: post) ((l.set (pre.length + 1) y).set pre.length i) := by
  refine ⟨by rw [← h.sort]; simp, fun p hp => ?_, ?_⟩
  · rcases List.mem_cons.1 hp with rfl | hp
    · exact hl
    · exact h.past p hp
  · rw [h.is, List.append_assoc, List.set_append_right _ _ (by omega), List.set_append_right _ _ (Nat.le_refl _)]
    simp
theorem ins_end {lt : Nat → Nat → Bool} (hO : OrdL lt) {n i : Nat} {pre post l : List Nat} (h : InsI lt n i pre post l) (hs : pre = [] ∨ ∃ p2 y, pre = p2 ++ [y] ∧ lt i y = false) : l = sortD lt (i + 1) ++ List.range' (i + 1) (n - (i + 1)) := by
  have hpre : ∀ p ∈ pre, lt i p = false := by
    rcases hs with rfl | ⟨p2, y, rfl, hy⟩
    · intro p hp; cases hp
    · have hu := sortD_up hO i
      rw [← h.sort, List.append_assoc] at hu
      exact up_stop hO hu hy
  have h1 := insD_split lt i pre post hpre h.past
  rw [h.sort] at h1
  rw [sortD, h1, h.is]
  simp
theorem snoc_of {l : List Nat} (h : 0 < l.length) : ∃ p y, l = p ++ [y] ∧ p.length = l.length - 1 := by
  refine ⟨l.dropLast, l.getLast (List.ne_nil_of_length_pos h), (List.dropLast_concat_getLast _).symm, List.length_dropLast⟩
set_option maxRecDepth 1000000 in
set_option maxHeartbeats 4000000 in
theorem insn_any {w : World} {g n cap : Nat} {gf : FuncId} {lb : Array Value} {cf : Nat → Nat → Int} {lt : Nat → Nat → Bool} (hlt : ∀ a b, lt a b = decide (cf a b < 0)) (hO : OrdL lt) (hrow : RowN w g (List.range n)) (hc : CmpQ g n w gf lb cf) (hn : n ≤ 1000000) :
    Calls Tryz.prog 195 #[.slice (some ⟨g, 0, none⟩) n cap, .int .i64 0, .int .i64 n, .func (.func gf) #[] lb] w fun e w' => e = .returned (.tuple #[]) ∧ RowN w' g (sortD lt n) ∧ Exc g w.heap.size w w' := by
  have he1 := hc.enters
  have HC := Lib.hid hc.gives
  have HO := Lib.hid hO
  have HLT := Lib.hid hlt
  have HST : Hid (RowN w g (sortD lt 0 ++ List.range' 0 (n - 0))) := Lib.hid (by rw [Nat.sub_zero, ← List.range_eq_range']; exact hrow)
  have hgl : g < w.heap.size := blk_lt hrow
  clear hc hO hlt hrow
  rcases Nat.lt_or_ge 0 n with hn0 | hn0
  · have HS1 : Hid (RowN w g (sortD lt 1 ++ List.range' 1 (n - 1))) := Lib.hid (by
      have h := HST.out
      rw [show n - 0 = (n - 1) + 1 by omega, List.range'_succ] at h
      exact h)
    go_enter Tryz.func195, Tryz.ntmps195
    go_wp2
    go_loopw [8] (fun vi wr => ∃ i : Nat, 1 ≤ i ∧ i ≤ n ∧ vi = .int .i64 i ∧ RowN wr g (sortD lt i ++ List.range' i (n - i)) ∧ Exc g w.heap.size w wr) (fun vi _ => n - (intOf vi).toNat)
    case atStart => exact ⟨1, Nat.le_refl _, hn0, by go_num, HS1.out, Exc.refl _ _ _⟩
    case round =>
      obtain ⟨i, hi1, hin, rfl, hrw, hx⟩ := hrel
      have HRW := Lib.hid hrw
      have HX := Lib.hid hx
      clear hrw hx HS1 HST
      by_cases hlt : i < n
      · have hltz : (i : Int) < (n : Int) := by omega
        obtain ⟨WO, rfl⟩ : ∃ WO, WO = wr := ⟨_, rfl⟩
        go_wp2
        go_loopw [9] (fun vj wr2 => ∃ pre post l : List Nat, vj = .int .i64 (pre.length : Nat) ∧ InsI lt n i pre post l ∧ RowN wr2 g l ∧ Exc g w.heap.size w wr2) (fun vj _ => (intOf vj).toNat)
        case atStart => exact ⟨sortD lt i, [], _, by rw [sortD_len], ins_start lt hlt, HRW.out, HX.out⟩
        case round =>
          obtain ⟨pre, post, l, rfl, hI, hrw2, hx2⟩ := hrel
          have HI := Lib.hid hI
          have HRW2 := Lib.hid hrw2
          have HX2 := Lib.hid hx2
          have hll := hI.len hlt
          clear hI hrw2 hx2
          rcases Nat.eq_zero_or_pos pre.length with hp0 | hp0
          · have hE := Lib.hid (ins_end HO.out HI.out (.inl (List.eq_nil_of_length_eq_zero hp0)))
            rw [hp0]
            have hg : decide (((0 : Nat) : Int) > 0) = false := by decide
            have HD : Hid (∀ q, RowN (wr.drewN q) g l ∧ Exc g w.heap.size w (wr.drewN q)) := Lib.hid (fun q => ⟨HRW2.out, exc_drewN HX2.out q⟩)
            generalize wr = wq at *
            go_wp2_with fail
            go_region
            all_goals go_wp2
            go_roundw
            case rel => exact ⟨i + 1, by omega, hlt, by go_num, by rw [← hE.out]; exact HRW2.out, ⟨HX2.out.os, HX2.out.tape, HX2.out.output, HX2.out.size, HX2.out.block⟩⟩
            case measure => simp [intOf] <;> omega
          · obtain ⟨p2, y, rfl, hp2⟩ := snoc_of hp0
            have hpl : (p2 ++ [y]).length = p2.length + 1 := by simp
            have hyi := HI.out.small y (by simp)
            have hLi : l[p2.length + 1]? = some i := by rw [HI.out.is]; simp
            have hLy : l[p2.length]? = some y := by rw [HI.out.is]; simp
            obtain ⟨jp, hjp⟩ : ∃ jp, p2.length = jp := ⟨_, rfl⟩
            have hjl : jp + 1 < l.length := by
              rw [hjp] at hLi
              rcases Nat.lt_or_ge (jp + 1) l.length with h | h
              · exact h
              · rw [List.getElem?_eq_none h] at hLi; cases hLi
            rw [hjp] at hLi hLy
            obtain ⟨c1, f1⟩ := HRW2.out.at (jp + 1) hjl
            obtain ⟨c0, f0⟩ := HRW2.out.at jp (by omega)
            have e1 : l[jp + 1] = i := by rw [List.getElem?_eq_getElem hjl] at hLi; exact Option.some.inj hLi
            have e0 : l[jp]'(by omega) = y := by rw [List.getElem?_eq_getElem (by omega : jp < l.length)] at hLy; exact Option.some.inj hLy
            rw [e1] at c1
            rw [e0] at c0
            rw [hpl, hjp]
            have HG := Lib.hid (fun W hW => HC.out W i y hlt (by omega) hW)
            have hc : ∀ k, Calls Tryz.prog gf (#[.int .i64 (i : Int), .int .i64 (y : Int)] ++ lb) (wr.drewN k) fun e w' => e = .returned (.int .i64 (cf i y)) ∧ ∃ q, w' = (wr.drewN k).drewN q := fun k => HG.out _ (exc_drewN HX2.out k)
            have HJP := Lib.hid hjp
            have hjz : (jp : Int) + 1 < (n : Int) := by omega
            have hjz1 : (jp : Int) < (n : Int) := by omega
            have hja : (0 : Int) < ((jp + 1 : Nat) : Int) := by omega
            have hcast : ((jp + 1 : Nat) : Int) = (jp : Int) + 1 := by omega
            have HLTY := Lib.hid (HLT.out i y)
            have ej : ((jp : Int) + 1).toNat = jp + 1 := by omega
            clear hjp hLi hLy hpl e1 e0
            rw [hcast]
            have hg : (jp : Int) + 1 > 0 := by omega
            have hg2 : (0 : Int) ≤ (jp : Int) + 1 := by omega
            obtain ⟨cv, hcv⟩ : ∃ cv, cf i y = cv := ⟨_, rfl⟩
            rw [hcv] at hc HLTY
            clear hcv hcast hja
            by_cases hlv : cv < 0
            · have HT : Hid (lt i y = true) := Lib.hid (HLTY.out.trans (decide_eq_true hlv))
              go_wp2_with fail
              go_quiet (first | (go_at_fn gf; refine Calls.quiet_of (hc _)))
              go_wp2_with fail
              have HRW3 : Hid (RowN (wr.drewN nq) g l) := Lib.hid HRW2.out
              have HX3 : Hid (Exc g w.heap.size w (wr.drewN nq)) := Lib.hid (exc_drewN HX2.out nq)
              have c1' : (wr.drewN nq).cell? ⟨g, jp + 1, none⟩ = some (.int .i64 (i : Int)) := c1
              have c0' : (wr.drewN nq).cell? ⟨g, jp, none⟩ = some (.int .i64 (y : Int)) := c0
              have f1' : (wr.drewN nq).frozen? ⟨g, jp + 1, none⟩ = false := f1
              have f0' : (wr.drewN nq).frozen? ⟨g, jp, none⟩ = false := f0
              clear c1 c0 f1 f0 hc
              generalize wr.drewN nq = wq at *
              obtain ⟨j1, hj1⟩ : ∃ j1, j1 = jp + 1 := ⟨_, rfl⟩
              rw [← hj1] at c1' f1' ej
              have J1 := Lib.hid hj1
              clear hj1
              go_region
              all_goals go_wp2
              go_roundw
              case measure => simp [intOf] <;> omega
              case rel =>
                refine ⟨p2, y :: post, _, by rw [HJP.out], ins_go HI.out HT.out, ?_, ?_⟩
                · rw [HJP.out, ← J1.out]
                  exact (RowN.set (HRW3.out) j1 y).set jp i
                · exact ((exc_drewN HX3.out 1).setCell (p := ⟨g, j1, none⟩) (.inl rfl) _).setCell (p := ⟨g, jp, none⟩) (.inl rfl) _
            · have HE := Lib.hid (ins_end HO.out HI.out (.inr ⟨p2, y, rfl, HLTY.out.trans (decide_eq_false hlv)⟩))
              go_wp2_with fail
              go_quiet (first | (go_at_fn gf; refine Calls.quiet_of (hc _)))
              go_wp2
              go_roundw
              case rel => exact ⟨i + 1, by omega, hlt, by go_num, by rw [← HE.out]; exact HRW2.out, exc_drewN HX2.out _⟩
              case measure => simp [intOf] <;> omega
      · obtain rfl : i = n := by omega
        have hltz : ¬ ((i : Nat) : Int) < i := by omega
        have HF : Hid (RowN wr g (sortD lt i)) := Lib.hid (by have h := HRW.out; rw [Nat.sub_self] at h; simpa using h)
        go_wp2
        go_end0
        exact ⟨rfl, HF.out, HX.out⟩
  · obtain rfl : n = 0 := by omega
    have HF : Hid (RowN w g (sortD lt 0)) := Lib.hid HST.out
    go_enter Tryz.func195, Tryz.ntmps195
    go_wp2
    go_loopw [8] (fun vi wr => vi = .int .i64 1 ∧ wr = w) (fun _ _ => 0)
    case atStart => exact ⟨by go_num, rfl⟩
    case round =>
      obtain ⟨rfl, rfl⟩ := hrel
      go_wp2
      go_end0
      exact ⟨rfl, HF.out, Exc.refl _ _ _⟩
end Go.Proofs.YtiknhkkeifemcaaGreatDoor
