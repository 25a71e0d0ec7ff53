/-
  The program's writer of JSON (package jsonwrite): goes, fail, pay. Conditions: those that each theorem names.
-/
import Derived.Test.YtiknhkkeifemcaaGreatDoorPkN12
import Derived.Test.YtiknhkkeifemcaaGreatDoorPkN28
import Derived.BigQuiet
namespace Go.Proofs.YtiknhkkeifemcaaGreatDoor
open Go.ChangeShapes Go.WideShapes Go.ChangeAt Go.RowKit

structure JwSt (W : World) (base wk ak mk : Nat) (rv cv : Value) (A : Option Addr) (cap : Nat) (zs : List Int) (over : Bool) (left : Int) (mo : Bool) (fault : Int) : Prop where
  blk : W.heap[wk]? = some (.cells #[rv, cv, .pointer (some ⟨ak, 0, none⟩), .pointer (some ⟨mk, 0, none⟩), .int .i64 fault] 126 (0, 0))
  arena : IsArena W base ak A cap zs 32768 over
  met : W.heap[mk]? = some (.cells #[.int .i64 left, .bool mo] 152 (0, 0))
  ne1 : wk ≠ ak
  ne2 : wk ≠ mk
  ne3 : ak ≠ mk
  r1 : rowOf A ≠ some wk
  r2 : rowOf A ≠ some mk
  hb : base ≤ wk
section
variable {w : World} {base wk ak mk : Nat} {rv cv : Value} {A : Option Addr} {cap : Nat} {zs : List Int} {over : Bool} {left : Int} {mo : Bool} {fault : Int}
theorem JwSt.below {w' : World} (h : JwSt w base wk ak mk rv cv A cap zs over left mo fault) (hb : Below w.heap.size w w') : JwSt w' base wk ak mk rv cv A cap zs over left mo fault :=
  ⟨blk_below h.blk hb (blk_lt h.blk), h.arena.below hb, blk_below h.met hb (blk_lt h.met), h.ne1, h.ne2, h.ne3, h.r1, h.r2, h.hb⟩
theorem JwSt.stepped {w' : World} {zs' : List Int} {over' : Bool} (h : JwSt w base wk ak mk rv cv A cap zs over left mo fault) (hs : Stepped w w' base ak A zs' 32768 over') : ∃ A' cap', JwSt w' base wk ak mk rv cv A' cap' zs' over' left mo fault ∧ Fx wk ak mk A A' w w' := by
  obtain ⟨A', cap', ha, hm, hf⟩ := hs
  have hwl := blk_lt h.blk
  have hml := blk_lt h.met
  refine ⟨A', cap', ⟨(hm.block wk hwl h.ne1 (fun e => h.r1 e.symm)).trans h.blk, ha, (hm.block mk hml (fun e => h.ne3 e.symm) (fun e => h.r2 e.symm)).trans h.met, h.ne1, h.ne2, h.ne3, ?_, ?_, h.hb⟩, .of_moved hm hf⟩
  · rcases hf with e | ⟨j, e, hj⟩
    · rw [e]; exact h.r1
    · rw [e]; intro e2; injection e2 with e2; omega
  · rcases hf with e | ⟨j, e, hj⟩
    · rw [e]; exact h.r2
    · rw [e]; intro e2; injection e2 with e2; omega
theorem JwSt.failed (h : JwSt w base wk ak mk rv cv A cap zs over left mo fault) (f : Int) : JwSt (w.setCell ⟨wk, 4, none⟩ (.int .i64 f)) base wk ak mk rv cv A cap zs over left mo f ∧ Fx wk ak mk A A w (w.setCell ⟨wk, 4, none⟩ (.int .i64 f)) := by
  have hs : ∀ k, k ≠ wk → (w.setCell ⟨wk, 4, none⟩ (.int .i64 f)).heap[k]? = w.heap[k]? := fun k hk => Below.heap_setCell _ _ _ _ hk
  have hz : (w.setCell ⟨wk, 4, none⟩ (.int .i64 f)).heap.size = w.heap.size := by simp [World.setCell]
  refine ⟨⟨?_, h.arena.kept (by omega) (hs _ (fun e => h.ne1 e.symm)) (fun k hk => hs k (fun e => h.r1 (by rw [hk, e]))), (hs _ (fun e => h.ne2 e.symm)).trans h.met, h.ne1, h.ne2, h.ne3, h.r1, h.r2, h.hb⟩, ⟨rfl, rfl, rfl, by omega, fun k _ h1 _ _ _ => hs k h1, Fresh.refl w A⟩⟩
  rw [blk_set h.blk 4]
  rfl
theorem JwSt.metered {w' : World} {left' : Int} {mo' : Bool} (h : JwSt w base wk ak mk rv cv A cap zs over left mo fault) (ho : w'.os = w.os ∧ w'.tape = w.tape ∧ w'.output = w.output) (hz : w'.heap.size = w.heap.size) (hs : ∀ k, k ≠ mk → w'.heap[k]? = w.heap[k]?) (hm : w'.heap[mk]? = some (.cells #[.int .i64 left', .bool mo'] 152 (0, 0))) : JwSt w' base wk ak mk rv cv A cap zs over left' mo' fault ∧ Fx wk ak mk A A w w' :=
  ⟨⟨(hs _ h.ne2).trans h.blk, h.arena.kept (by omega) (hs _ h.ne3) (fun k hk => hs k (fun e => h.r2 (by rw [hk, e]))), hm, h.ne1, h.ne2, h.ne3, h.r1, h.r2, h.hb⟩, ⟨ho.1, ho.2.1, ho.2.2, by omega, fun k _ _ _ h3 _ => hs k h3, Fresh.refl w A⟩⟩
theorem JwSt.took (h : JwSt w base wk ak mk rv cv A cap zs over left mo fault) (l' : Int) : JwSt (w.setCell ⟨mk, 0, none⟩ (.int .i64 l')) base wk ak mk rv cv A cap zs over l' mo fault ∧ Fx wk ak mk A A w (w.setCell ⟨mk, 0, none⟩ (.int .i64 l')) :=
  h.metered ⟨rfl, rfl, rfl⟩ (by simp [World.setCell]) (fun k hk => Below.heap_setCell _ _ _ _ hk) (by rw [blk_set h.met 0]; rfl)
theorem JwSt.out (h : JwSt w base wk ak mk rv cv A cap zs over left mo fault) (l' : Int) : JwSt ((w.setCell ⟨mk, 0, none⟩ (.int .i64 l')).setCell ⟨mk, 1, none⟩ (.bool true)) base wk ak mk rv cv A cap zs over l' true fault ∧ Fx wk ak mk A A w ((w.setCell ⟨mk, 0, none⟩ (.int .i64 l')).setCell ⟨mk, 1, none⟩ (.bool true)) := by
  have h1 := h.took l'
  have h2 := h1.1.metered (w' := (w.setCell ⟨mk, 0, none⟩ (.int .i64 l')).setCell ⟨mk, 1, none⟩ (.bool true)) (left' := l') (mo' := true) ⟨rfl, rfl, rfl⟩ (by simp [World.setCell]) (fun k hk => Below.heap_setCell _ _ _ _ hk) (by rw [blk_set h1.1.met 1]; rfl)
  exact ⟨h2.1, h1.2.trans h2.2⟩
theorem JwSt.meter (h : JwSt w base wk ak mk rv cv A cap zs over left mo fault) : IsMeter w mk left mo := ⟨blk_cell h.met 0, blk_cell h.met 1, blk_frozen h.met 0, blk_frozen h.met 1⟩
theorem JwSt.lts (h : JwSt w base wk ak mk rv cv A cap zs over left mo fault) : wk < w.heap.size ∧ ak < w.heap.size ∧ mk < w.heap.size ∧ ∀ r, rowOf A = some r → r < w.heap.size := ⟨blk_lt h.blk, h.arena.lt, blk_lt h.met, fun r hr => (h.arena.own.row r hr).2⟩
end
def JwGo (base wk ak mk : Nat) (rv cv : Value) (A : Option Addr) (L : Int) (enc : List Int) (pay : Int) (W : World) : Prop :=
  ∃ cap left, JwSt W base wk ak mk rv cv A cap enc false left false 0 ∧ L - pay ≤ left ∧ 0 ≤ left ∧ left ≤ 9223372036854775807
def JwOff (base wk ak mk : Nat) (rv cv : Value) (A : Option Addr) (L : Int) (enc : List Int) (pay : Int) (W : World) : Prop :=
  ∃ cap zs over left mo f, JwSt W base wk ak mk rv cv A cap zs over left mo f ∧ ((f = 0 ∧ over = true ∧ mo = false ∧ 32768 < enc.length) ∨ (f = 3 ∧ L < pay))
def JwAt (base wk ak mk : Nat) (rv cv : Value) (A : Option Addr) (L : Int) (enc : List Int) (pay : Int) (W : World) : Prop :=
  JwGo base wk ak mk rv cv A L enc pay W ∨ JwOff base wk ak mk rv cv A L enc pay W
def JwTo (base wk ak mk : Nat) (rv cv : Value) (A : Option Addr) (L : Int) (enc : List Int) (pay : Int) (w W : World) : Prop :=
  ∃ A', JwAt base wk ak mk rv cv A' L enc pay W ∧ Fx wk ak mk A A' w W
section
variable {w : World} {base wk ak mk : Nat} {rv cv : Value} {A : Option Addr} {L pay pay' : Int} {enc : List Int}
theorem JwGo.below {w' : World} (h : JwGo base wk ak mk rv cv A L enc pay w) (hb : Below w.heap.size w w') : JwGo base wk ak mk rv cv A L enc pay w' := by
  obtain ⟨cap, left, h1, h2⟩ := h
  exact ⟨cap, left, h1.below hb, h2⟩
theorem JwOff.below {w' : World} (h : JwOff base wk ak mk rv cv A L enc pay w) (hb : Below w.heap.size w w') : JwOff base wk ak mk rv cv A L enc pay w' := by
  obtain ⟨cap, zs, ov, left, mo, f, h1, h2⟩ := h
  exact ⟨cap, zs, ov, left, mo, f, h1.below hb, h2⟩
theorem JwAt.below {w' : World} (h : JwAt base wk ak mk rv cv A L enc pay w) (hb : Below w.heap.size w w') : JwAt base wk ak mk rv cv A L enc pay w' := h.imp (·.below hb) (·.below hb)
theorem JwGo.more (h : JwGo base wk ak mk rv cv A L enc pay w) (hp : pay ≤ pay') : JwGo base wk ak mk rv cv A L enc pay' w := by
  obtain ⟨cap, left, h1, h2, h3⟩ := h
  exact ⟨cap, left, h1, by omega, h3⟩
theorem JwOff.more {enc' : List Int} (h : JwOff base wk ak mk rv cv A L enc pay w) (he : enc.length ≤ enc'.length) (hp : pay ≤ pay') : JwOff base wk ak mk rv cv A L enc' pay' w := by
  obtain ⟨cap, zs, ov, left, mo, f, h1, h2⟩ := h
  refine ⟨cap, zs, ov, left, mo, f, h1, ?_⟩
  rcases h2 with ⟨a, b, b2, c⟩ | ⟨a, b⟩
  · exact .inl ⟨a, b, b2, by omega⟩
  · exact .inr ⟨a, by omega⟩
theorem JwAt.more (h : JwAt base wk ak mk rv cv A L enc pay w) (hp : pay ≤ pay') : JwAt base wk ak mk rv cv A L enc pay' w := h.imp (·.more hp) (·.more (Nat.le_refl _) hp)
theorem JwAt.lts (h : JwAt base wk ak mk rv cv A L enc pay w) : wk < w.heap.size ∧ ak < w.heap.size ∧ mk < w.heap.size ∧ (∀ r, rowOf A = some r → r < w.heap.size) ∧ base ≤ wk := by
  rcases h with ⟨_, _, h, _⟩ | ⟨_, _, _, _, _, _, h, _⟩
  · exact ⟨h.lts.1, h.lts.2.1, h.lts.2.2.1, h.lts.2.2.2, h.hb⟩
  · exact ⟨h.lts.1, h.lts.2.1, h.lts.2.2.1, h.lts.2.2.2, h.hb⟩
theorem JwTo.refl (h : JwAt base wk ak mk rv cv A L enc pay w) : JwTo base wk ak mk rv cv A L enc pay w w := ⟨A, h, Fx.refl wk ak mk A w⟩
theorem JwTo.more {w' : World} (h : JwTo base wk ak mk rv cv A L enc pay w w') (hp : pay ≤ pay') : JwTo base wk ak mk rv cv A L enc pay' w w' := by
  obtain ⟨A', h1, h2⟩ := h
  exact ⟨A', h1.more hp, h2⟩
theorem JwTo.below {w' w2 : World} (h : JwTo base wk ak mk rv cv A L enc pay w w') (hb : Below w'.heap.size w' w2) : JwTo base wk ak mk rv cv A L enc pay w w2 := by
  obtain ⟨A', h1, h2⟩ := h
  exact ⟨A', h1.below hb, h2.trans (.of_below A' hb)⟩
theorem JwTo.from {w1 w2 : World} {A1 : Option Addr} (hx : Fx wk ak mk A A1 w w1) (h : JwTo base wk ak mk rv cv A1 L enc pay w1 w2) : JwTo base wk ak mk rv cv A L enc pay w w2 := by
  obtain ⟨A', h1, h2⟩ := h
  exact ⟨A', h1, hx.trans h2⟩
end
end Go.Proofs.YtiknhkkeifemcaaGreatDoor
namespace Go.Proofs.YtiknhkkeifemcaaGreatDoor
open Go.ChangeShapes Go.WideShapes Go.ChangeAt Go.RowKit

theorem blk5q {w : World} {b : Nat} {u0 u1 u2 u3 u4 : Value} {t : TypeId} (h : w.heap[b]? = some (.cells #[u0, u1, u2, u3, u4] t (0, 0))) : w.cell? ⟨b, 0, none⟩ = some u0 ∧ w.cell? ⟨b, 1, none⟩ = some u1 ∧ w.cell? ⟨b, 2, none⟩ = some u2 ∧ w.cell? ⟨b, 3, none⟩ = some u3 ∧ w.cell? ⟨b, 4, none⟩ = some u4 :=
  ⟨blk_cell h 0, blk_cell h 1, blk_cell h 2, blk_cell h 3, blk_cell h 4⟩
section
variable {w : World} {base wk ak mk : Nat} {rv cv : Value} {A : Option Addr} {cap : Nat} {zs : List Int} {over : Bool} {left : Int} {mo : Bool} {fault : Int}
theorem jgoes_yes (h : JwSt w base wk ak mk rv cv A cap zs over left mo 0) :
    Calls Tryz.prog 60 #[.pointer (some ⟨wk, 0, none⟩)] w fun e w' => e = .returned (.bool (!over)) ∧ w = w' := by
  have H := Lib.hid (over_any h.arena)
  obtain ⟨c0, c1, c2, c3, c4⟩ := blk5q h.blk
  clear h
  go_enter Tryz.func60, Tryz.ntmps60
  go_wp2_with fail
  refine H.out.mono ?_
  rintro e W1 ⟨rfl, rfl⟩
  cases over
  · go_wp2
    go_ret
    exact ⟨rfl, rfl⟩
  · go_wp2
    go_ret
    exact ⟨rfl, rfl⟩
theorem jgoes_no (h : JwSt w base wk ak mk rv cv A cap zs over left mo 3) :
    Calls Tryz.prog 60 #[.pointer (some ⟨wk, 0, none⟩)] w fun e w' => e = .returned (.bool false) ∧ w = w' := by
  obtain ⟨c0, c1, c2, c3, c4⟩ := blk5q h.blk
  clear h
  go_enter Tryz.func60, Tryz.ntmps60
  go_wp2
  go_ret
  exact ⟨rfl, rfl⟩
theorem jfail_any (h : JwSt w base wk ak mk rv cv A cap zs false left mo 0) (f : Int) :
    Calls Tryz.prog 73 #[.pointer (some ⟨wk, 0, none⟩), .int .i64 f] w fun e w' => e = .returned (.tuple #[]) ∧ JwSt w' base wk ak mk rv cv A cap zs false left mo f ∧ Fx wk ak mk A A w w' := by
  have H := Lib.hid (h.failed f)
  have HG := Lib.hid (jgoes_yes h)
  obtain ⟨c0, c1, c2, c3, c4⟩ := blk5q h.blk
  have hfz := blk_frozen h.blk 4
  clear h
  go_enter Tryz.func73, Tryz.ntmps73
  go_wp2_with fail
  refine HG.out.mono ?_
  rintro e W1 ⟨rfl, rfl⟩
  go_wp2
  exact bodyPost_end (v := .tuple #[]) (by simp [results, Tryz.results73, go_sem]) rfl ⟨rfl, H.out⟩
end
section
variable {w : World} {base wk ak mk : Nat} {rv cv : Value} {A : Option Addr} {L pay : Int} {enc : List Int}
def JwPaid (base wk ak mk : Nat) (rv cv : Value) (A : Option Addr) (L : Int) (enc : List Int) (pay : Int) (w : World) (e : Ending) (w' : World) : Prop :=
  ((e = .returned (.bool true) ∧ JwGo base wk ak mk rv cv A L enc pay w') ∨ (e = .returned (.bool false) ∧ JwOff base wk ak mk rv cv A L enc pay w')) ∧ Fx wk ak mk A A w w'
theorem jpay_off (h : JwOff base wk ak mk rv cv A L enc pay w) (n : Int) (h0 : 0 ≤ n) :
    Calls Tryz.prog 69 #[.pointer (some ⟨wk, 0, none⟩), .int .i64 n] w (JwPaid base wk ak mk rv cv A L enc (pay + n) w) := by
  have HE := Lib.hid (show JwPaid base wk ak mk rv cv A L enc (pay + n) w (.returned (.bool false)) w from ⟨.inr ⟨rfl, h.more (Nat.le_refl _) (by omega)⟩, Fx.refl wk ak mk A w⟩)
  have HG : Hid (Calls Tryz.prog 60 #[.pointer (some ⟨wk, 0, none⟩)] w fun e w' => e = .returned (.bool false) ∧ w = w') := Lib.hid (by
    obtain ⟨cap, zs, ov, left, mo, f, h1, h2⟩ := h
    rcases h2 with ⟨rfl, rfl, _⟩ | ⟨rfl, _⟩
    · exact jgoes_yes h1
    · exact jgoes_no h1)
  clear h
  go_enter Tryz.func69, Tryz.ntmps69
  go_wp2_with fail
  refine HG.out.mono ?_
  rintro e W1 ⟨rfl, rfl⟩
  go_wp2_with fail
  refine HG.out.mono ?_
  rintro e W2 ⟨rfl, rfl⟩
  go_wp2
  go_ret
  exact HE.out
theorem jpay_go (h : JwGo base wk ak mk rv cv A L enc pay w) (n : Int) (h0 : 0 ≤ n) :
    Calls Tryz.prog 69 #[.pointer (some ⟨wk, 0, none⟩), .int .i64 n] w (JwPaid base wk ak mk rv cv A L enc (pay + n) w) := by
  obtain ⟨cap, left, h1, h2, h3, h4⟩ := h
  obtain ⟨c0, c1, c2, c3, c4⟩ := blk5q h1.blk
  have HG := Lib.hid (jgoes_yes h1)
  rcases Int.lt_or_le 0 n with hn | hn
  · rcases Int.lt_or_le left n with hl | hl
    · have H := Lib.hid (h1.out 0)
      have HT := Lib.hid (take_over mk left n w h1.meter h0 hl)
      have HL : Hid (L < pay + n) := Lib.hid (by omega)
      clear h1 h2
      go_enter Tryz.func69, Tryz.ntmps69
      go_wp2_with fail
      refine HG.out.mono ?_
      rintro e W1 ⟨rfl, rfl⟩
      go_wp2_with fail
      refine HT.out.mono ?_
      rintro e W1 ⟨rfl, rfl⟩
      clear c0 c1 c2 c3 c4
      go_wp2_with fail
      refine (jfail_any H.out.1 3).mono ?_
      rintro e W2 ⟨rfl, h5, h6⟩
      have HG2 := Lib.hid (jgoes_no h5)
      have HE := Lib.hid (show JwPaid base wk ak mk rv cv A L enc (pay + n) w (.returned (.bool false)) W2 from ⟨.inr ⟨rfl, cap, enc, false, 0, true, 3, h5, .inr ⟨rfl, HL.out⟩⟩, H.out.2.trans h6⟩)
      clear h5 h6
      go_wp2_with fail
      refine HG2.out.mono ?_
      rintro e W3 ⟨rfl, rfl⟩
      go_wp2
      go_ret
      exact HE.out
    · have H := Lib.hid (h1.took (left - n))
      have HT := Lib.hid (take_yes mk left n w h1.meter h0 hl h4)
      have HE := Lib.hid (show JwPaid base wk ak mk rv cv A L enc (pay + n) w (.returned (.bool true)) (w.setCell ⟨mk, 0, none⟩ (.int .i64 (left - n))) from ⟨.inl ⟨rfl, cap, left - n, H.out.1, by omega, by omega, by omega⟩, H.out.2⟩)
      have HG2 := Lib.hid (jgoes_yes H.out.1)
      clear h1 h2
      go_enter Tryz.func69, Tryz.ntmps69
      go_wp2_with fail
      refine HG.out.mono ?_
      rintro e W1 ⟨rfl, rfl⟩
      go_wp2_with fail
      refine HT.out.mono ?_
      rintro e W1 ⟨rfl, rfl⟩
      go_wp2_with fail
      refine HG2.out.mono ?_
      rintro e W3 ⟨rfl, rfl⟩
      go_wp2
      go_ret
      exact HE.out
  · obtain rfl : n = 0 := by omega
    have HE := Lib.hid (show JwPaid base wk ak mk rv cv A L enc (pay + 0) w (.returned (.bool true)) w from ⟨.inl ⟨rfl, cap, left, h1, by omega, h3, h4⟩, Fx.refl wk ak mk A w⟩)
    clear h1 h2
    go_enter Tryz.func69, Tryz.ntmps69
    go_wp2_with fail
    refine HG.out.mono ?_
    rintro e W1 ⟨rfl, rfl⟩
    go_wp2_with fail
    refine HG.out.mono ?_
    rintro e W3 ⟨rfl, rfl⟩
    go_wp2
    go_ret
    exact HE.out
theorem jpay_any (h : JwAt base wk ak mk rv cv A L enc pay w) (n : Int) (h0 : 0 ≤ n) :
    Calls Tryz.prog 69 #[.pointer (some ⟨wk, 0, none⟩), .int .i64 n] w (JwPaid base wk ak mk rv cv A L enc (pay + n) w) := by
  rcases h with h | h
  · exact jpay_go h n h0
  · exact jpay_off h n h0
theorem JwPaid.bool {e : Ending} {w' : World} (h : JwPaid base wk ak mk rv cv A L enc pay w e w') : ∃ b : Bool, e = .returned (.bool b) ∧ (b = true → JwGo base wk ak mk rv cv A L enc pay w') ∧ (b = false → JwOff base wk ak mk rv cv A L enc pay w') ∧ Fx wk ak mk A A w w' := by
  obtain ⟨⟨rfl, h1⟩ | ⟨rfl, h1⟩, h2⟩ := h
  · exact ⟨true, rfl, fun _ => h1, fun h => (by cases h), h2⟩
  · exact ⟨false, rfl, fun h => (by cases h), fun _ => h1, h2⟩
end
end Go.Proofs.YtiknhkkeifemcaaGreatDoor
