/-
  The program's writer of JSON (package jsonwrite): its block, its arena and its meter in memory; what of it holds while it may go on, and while it may not. Conditions: those that each theorem names.
-/
import Derived.Test.YtiknhkkeifemcaaGreatDoorPkM2
import Derived.Test.YtiknhkkeifemcaaGreatDoorPkM11
import Derived.Test.YtiknhkkeifemcaaGreatDoorPkM24
namespace Go.Proofs.YtiknhkkeifemcaaGreatDoor
open Go.ChangeShapes Go.WideShapes Go.ChangeAt Go.RowKit Go.Shelf

structure OutD (D : Nat → Prop) (w W : World) : Prop where
  os : W.os = w.os
  tape : W.tape = w.tape
  output : W.output = w.output
  size : w.heap.size ≤ W.heap.size
  block : ∀ k, D k → W.heap[k]? = w.heap[k]?
theorem OutD.refl (D : Nat → Prop) (w : World) : OutD D w w := ⟨rfl, rfl, rfl, Nat.le_refl _, fun _ _ => rfl⟩
theorem OutD.trans {D : Nat → Prop} {a b c : World} (h : OutD D a b) (k : OutD D b c) : OutD D a c := ⟨k.os.trans h.os, k.tape.trans h.tape, k.output.trans h.output, Nat.le_trans h.size k.size, fun i hi => (k.block i hi).trans (h.block i hi)⟩
theorem OutD.of_below {D : Nat → Prop} {w W : World} (hD : ∀ k, D k → k < w.heap.size) (h : Below w.heap.size w W) : OutD D w W := ⟨h.os, h.tape, h.output, h.size, fun k hk => h.block k (hD k hk)⟩
def SaysD (D : Nat → Prop) (d : Nat) (w : World) (v : Value) (name : String) (i : Int) (Q : World → Ending → World → Prop) : Prop :=
  ∃ T r f rv, v = .iface T r ∧ Meth d T r name f rv ∧ ∀ W, OutD D w W → Calls Tryz.prog f #[rv, .int .i64 i] W fun e w' => Q W e w' ∧ Below W.heap.size W w'
abbrev NextSh := (Nat → Prop) → World → Value → Nat → Int → Int → PV → Prop
def HandD (next : NextSh) (D : Nat → Prop) (W w' : World) (v : Value) (k : Nat) (ref lists : Int) (q : PV) : Prop := ∃ D', (∀ j, D' j → (D j ∨ W.heap.size ≤ j) ∧ j < w'.heap.size) ∧ next D' w' v k ref lists q
def SubD (next : NextSh) (D : Nat → Prop) (b : Bool) (k : Nat) (ref lists : Int) (q : PV) (W : World) (e : Ending) (w' : World) : Prop :=
  (∃ sv, e = .returned (if b = true then .tuple #[sv, .bool true] else sv) ∧ HandD next D W w' sv k ref lists q) ∨ (b = true ∧ e = .returned (.tuple #[.nilIface, .bool false]) ∧ q = nilV)
def FreshB (W w' : World) (A : Option Addr) (c : Nat) (bs : List Int) : Prop := Bytes w' A bs ∧ bs.length ≤ c ∧ (A = none → c = 0) ∧ ∀ g, rowOf A = some g → W.heap.size ≤ g ∧ g < w'.heap.size
structure AskD (next : NextSh) (D : Nat → Prop) (b : Bool) (w : World) (v : Value) (i k : Nat) (ref lists : Int) (q : PV) : Prop where
  sort : 1 ≤ sortP k lists
  num : sortP k lists = 1 → q = numV q.num ∧ (q.num : Int) ≤ 18446744073709551615 ∧ SaysD D (dep b) w v "Num" i (fun _ e _ => e = .returned (.int .u64 q.num))
  bytes : sortP k lists = 2 → q = .mk 0 q.bytes [] false ∧ q.bytes.length ≤ 1000000 ∧ SaysD D (dep b) w v "Bytes" i (fun W e w' => ∃ A c, e = .returned (.slice A q.bytes.length c) ∧ FreshB W w' A c q.bytes)
  list : sortP k lists = 3 → SaysD D (dep b) w v "List" i (fun W e w' => ∃ lv, e = .returned lv ∧ HandD next D W w' lv k ref lists q)
  sub : sortP k lists = 4 → SaysD D (dep b) w v "Sub" i (fun W e w' => SubD next D b k ref lists q W e w')
structure ListHeadD (D : Nat → Prop) (w : World) (v : Value) (q : PV) : Prop where
  bare : q.num = 0 ∧ q.bytes = [] ∧ q.has = false
  few : q.kids.length ≤ 1000000
  len : (v = .nilIface ∧ q.kids = []) ∨ ∃ T r f rv, v = .iface T r ∧ Meth 1 T r "Len" f rv ∧ ∀ W, OutD D w W → Calls Tryz.prog f #[rv] W fun e w' => e = .returned (.int .i64 q.kids.length) ∧ Below W.heap.size W w'
def ShownD (ss : List CRec) : Nat → NextSh
  | 0, D, w, v, k, _, lists, q => sortP k lists = 3 ∧ ListHeadD D w v q ∧ q.kids = []
  | r + 1, D, w, v, k, ref, lists, q =>
    (sortP k lists = 3 ∧ ListHeadD D w v q ∧ ∀ j (hj : j < q.kids.length), AskD (ShownD ss r) D false w v j k ref (lists - 1) (q.kids[j]'hj)) ∨
    (sortP k lists = 4 ∧ StructHead ss v ref q ∧ ∀ j (hj : j < q.kids.length) (hf : j < (recAt ss ref).fields.length), AskD (ShownD ss r) D true w v j ((recAt ss ref).fields[j]'hf).kind ((recAt ss ref).fields[j]'hf).ref ((recAt ss ref).fields[j]'hf).lists (q.kids[j]'hj))
theorem SaysD.later {D : Nat → Prop} {d : Nat} {w w2 : World} {v : Value} {name : String} {i : Int} {Q : World → Ending → World → Prop} (h : SaysD D d w v name i Q) (hb : OutD D w w2) : SaysD D d w2 v name i Q := by
  obtain ⟨T, r, f, rv, hv, hm, hc⟩ := h
  exact ⟨T, r, f, rv, hv, hm, fun W hW => hc W (hb.trans hW)⟩
theorem AskD.later {next : NextSh} {D : Nat → Prop} {b : Bool} {w w2 : World} {v : Value} {i k : Nat} {ref lists : Int} {q : PV} (h : AskD next D b w v i k ref lists q) (hb : OutD D w w2) : AskD next D b w2 v i k ref lists q :=
  ⟨h.sort, fun hs => ⟨(h.num hs).1, (h.num hs).2.1, (h.num hs).2.2.later hb⟩, fun hs => ⟨(h.bytes hs).1, (h.bytes hs).2.1, (h.bytes hs).2.2.later hb⟩, fun hs => (h.list hs).later hb, fun hs => (h.sub hs).later hb⟩
theorem ListHeadD.later {D : Nat → Prop} {w w2 : World} {v : Value} {q : PV} (h : ListHeadD D w v q) (hb : OutD D w w2) : ListHeadD D w2 v q :=
  ⟨h.bare, h.few, by
    rcases h.len with h1 | ⟨T, r, f, rv, hv, hm, hc⟩
    · exact .inl h1
    · exact .inr ⟨T, r, f, rv, hv, hm, fun W hW => hc W (hb.trans hW)⟩⟩
theorem ShownD.later {ss : List CRec} : ∀ (n : Nat) {D : Nat → Prop} {w w2 : World} {v : Value} {k : Nat} {ref lists : Int} {q : PV}, ShownD ss n D w v k ref lists q → OutD D w w2 → ShownD ss n D w2 v k ref lists q
  | 0, _, _, _, _, _, _, _, _, h, hb => ⟨h.1, h.2.1.later hb, h.2.2⟩
  | _ + 1, _, _, _, _, _, _, _, _, h, hb => by
    rcases h with ⟨h1, h2, h3⟩ | ⟨h1, h2, h3⟩
    · exact .inl ⟨h1, h2.later hb, fun j hj => (h3 j hj).later hb⟩
    · exact .inr ⟨h1, h2, fun j hj hf => (h3 j hj hf).later hb⟩
theorem ShownD.shown {ss : List CRec} : ∀ (n : Nat) {D : Nat → Prop} {w : World} {v : Value} {k : Nat} {ref lists : Int} {q : PV}, ShownD ss n D w v k ref lists q → (∀ j, D j → j < w.heap.size) → Shown ss n w v k ref lists q := by
  intro n
  induction n with
  | zero =>
    intro D w v k ref lists q h hD
    refine ⟨h.1, ⟨h.2.1.bare, h.2.1.few, ?_⟩, h.2.2⟩
    rcases h.2.1.len with h1 | ⟨T, r, f, rv, hv, hm, hc⟩
    · exact .inl h1
    · exact .inr ⟨T, r, f, rv, hv, hm, fun W hW => hc W (.of_below hD hW)⟩
  | succ n ih =>
    have ask : ∀ {D : Nat → Prop} {b : Bool} {w : World} {v : Value} {i k : Nat} {ref lists : Int} {q : PV}, (∀ j, D j → j < w.heap.size) → AskD (ShownD ss n) D b w v i k ref lists q → AskOk (Shown ss n) b w v i k ref lists q := by
      intro D b w v i k ref lists q hD h
      have hnew : ∀ {W w' : World} {lv : Value} {k : Nat} {ref lists : Int} {q : PV}, HandD (ShownD ss n) D W w' lv k ref lists q → Shown ss n w' lv k ref lists q := by
        rintro W w' lv k ref lists q ⟨D', hD', hs⟩
        exact ih hs (fun j hj => (hD' j hj).2)
      refine ⟨h.sort, fun hs => ⟨(h.num hs).1, (h.num hs).2.1, ?_⟩, fun hs => ⟨(h.bytes hs).1, (h.bytes hs).2.1, ?_⟩, fun hs => ?_, fun hs => ?_⟩
      · obtain ⟨T, r, f, rv, hv, hm, hc⟩ := (h.num hs).2.2
        exact ⟨T, r, f, rv, hv, hm, fun W hW => hc W (.of_below hD hW)⟩
      · obtain ⟨T, r, f, rv, hv, hm, hc⟩ := (h.bytes hs).2.2
        refine ⟨T, r, f, rv, hv, hm, fun W hW => (hc W (.of_below hD hW)).mono ?_⟩
        rintro e w' ⟨⟨A, c, he, hby⟩, hb⟩
        exact ⟨⟨A, c, he, hby.1⟩, hb⟩
      · obtain ⟨T, r, f, rv, hv, hm, hc⟩ := h.list hs
        refine ⟨T, r, f, rv, hv, hm, fun W hW => (hc W (.of_below hD hW)).mono ?_⟩
        rintro e w' ⟨⟨lv, he, hn⟩, hb⟩
        exact ⟨⟨lv, he, hnew hn⟩, hb⟩
      · obtain ⟨T, r, f, rv, hv, hm, hc⟩ := h.sub hs
        refine ⟨T, r, f, rv, hv, hm, fun W hW => (hc W (.of_below hD hW)).mono ?_⟩
        rintro e w' ⟨hq, hb⟩
        refine ⟨?_, hb⟩
        rcases hq with ⟨sv, he, hn⟩ | hq
        · exact .inl ⟨sv, he, hnew hn⟩
        · exact .inr hq
    intro D w v k ref lists q h hD
    rcases h with ⟨h1, h2, h3⟩ | ⟨h1, h2, h3⟩
    · refine .inl ⟨h1, ⟨h2.bare, h2.few, ?_⟩, fun j hj => ask hD (h3 j hj)⟩
      rcases h2.len with h4 | ⟨T, r, f, rv, hv, hm, hc⟩
      · exact .inl h4
      · exact .inr ⟨T, r, f, rv, hv, hm, fun W hW => hc W (.of_below hD hW)⟩
    · exact .inr ⟨h1, h2, fun j hj hf => ask hD (h3 j hj hf)⟩
end Go.Proofs.YtiknhkkeifemcaaGreatDoor
namespace Go.Proofs.YtiknhkkeifemcaaGreatDoor
open Go.ChangeShapes Go.WideShapes Go.ChangeAt Go.RowKit

structure JwSt (W : World) (base wk ak mk : Nat) (rv cv : Value) (A : Option Addr) (cap : Nat) (zs : List Int) (over : Bool) (left : Int) (mo : Bool) (fault : Int) : Prop where
  blk : W.heap[wk]? = some (.cells #[rv, cv, .pointer (some ⟨ak, 0, none⟩), .pointer (some ⟨mk, 0, none⟩), .int .i64 fault] 126 (0, 0))
  arena : IsArena W base ak A cap zs 32768 over
  met : W.heap[mk]? = some (.cells #[.int .i64 left, .bool mo] 152 (0, 0))
  ne1 : wk ≠ ak
  ne2 : wk ≠ mk
  ne3 : ak ≠ mk
  r1 : rowOf A ≠ some wk
  r2 : rowOf A ≠ some mk
  hb : base ≤ wk
section
variable {w : World} {base wk ak mk : Nat} {rv cv : Value} {A : Option Addr} {cap : Nat} {zs : List Int} {over : Bool} {left : Int} {mo : Bool} {fault : Int}
theorem JwSt.below {w' : World} (h : JwSt w base wk ak mk rv cv A cap zs over left mo fault) (hb : Below w.heap.size w w') : JwSt w' base wk ak mk rv cv A cap zs over left mo fault :=
  ⟨blk_below h.blk hb (blk_lt h.blk), h.arena.below hb, blk_below h.met hb (blk_lt h.met), h.ne1, h.ne2, h.ne3, h.r1, h.r2, h.hb⟩
theorem JwSt.stepped {w' : World} {zs' : List Int} {over' : Bool} (h : JwSt w base wk ak mk rv cv A cap zs over left mo fault) (hs : Stepped w w' base ak A zs' 32768 over') : ∃ A' cap', JwSt w' base wk ak mk rv cv A' cap' zs' over' left mo fault ∧ Fx wk ak mk A A' w w' := by
  obtain ⟨A', cap', ha, hm, hf⟩ := hs
  have hwl := blk_lt h.blk
  have hml := blk_lt h.met
  refine ⟨A', cap', ⟨(hm.block wk hwl h.ne1 (fun e => h.r1 e.symm)).trans h.blk, ha, (hm.block mk hml (fun e => h.ne3 e.symm) (fun e => h.r2 e.symm)).trans h.met, h.ne1, h.ne2, h.ne3, ?_, ?_, h.hb⟩, .of_moved hm hf⟩
  · rcases hf with e | ⟨j, e, hj⟩
    · rw [e]; exact h.r1
    · rw [e]; intro e2; injection e2 with e2; omega
  · rcases hf with e | ⟨j, e, hj⟩
    · rw [e]; exact h.r2
    · rw [e]; intro e2; injection e2 with e2; omega
theorem JwSt.failed (h : JwSt w base wk ak mk rv cv A cap zs over left mo fault) (f : Int) : JwSt (w.setCell ⟨wk, 4, none⟩ (.int .i64 f)) base wk ak mk rv cv A cap zs over left mo f ∧ Fx wk ak mk A A w (w.setCell ⟨wk, 4, none⟩ (.int .i64 f)) := by
  have hs : ∀ k, k ≠ wk → (w.setCell ⟨wk, 4, none⟩ (.int .i64 f)).heap[k]? = w.heap[k]? := fun k hk => Below.heap_setCell _ _ _ _ hk
  have hz : (w.setCell ⟨wk, 4, none⟩ (.int .i64 f)).heap.size = w.heap.size := by simp [World.setCell]
  refine ⟨⟨?_, h.arena.kept (by omega) (hs _ (fun e => h.ne1 e.symm)) (fun k hk => hs k (fun e => h.r1 (by rw [hk, e]))), (hs _ (fun e => h.ne2 e.symm)).trans h.met, h.ne1, h.ne2, h.ne3, h.r1, h.r2, h.hb⟩, ⟨rfl, rfl, rfl, by omega, fun k _ h1 _ _ _ => hs k h1, Fresh.refl w A⟩⟩
  rw [blk_set h.blk 4]
  rfl
theorem JwSt.metered {w' : World} {left' : Int} {mo' : Bool} (h : JwSt w base wk ak mk rv cv A cap zs over left mo fault) (ho : w'.os = w.os ∧ w'.tape = w.tape ∧ w'.output = w.output) (hz : w'.heap.size = w.heap.size) (hs : ∀ k, k ≠ mk → w'.heap[k]? = w.heap[k]?) (hm : w'.heap[mk]? = some (.cells #[.int .i64 left', .bool mo'] 152 (0, 0))) : JwSt w' base wk ak mk rv cv A cap zs over left' mo' fault ∧ Fx wk ak mk A A w w' :=
  ⟨⟨(hs _ h.ne2).trans h.blk, h.arena.kept (by omega) (hs _ h.ne3) (fun k hk => hs k (fun e => h.r2 (by rw [hk, e]))), hm, h.ne1, h.ne2, h.ne3, h.r1, h.r2, h.hb⟩, ⟨ho.1, ho.2.1, ho.2.2, by omega, fun k _ _ _ h3 _ => hs k h3, Fresh.refl w A⟩⟩
theorem JwSt.took (h : JwSt w base wk ak mk rv cv A cap zs over left mo fault) (l' : Int) : JwSt (w.setCell ⟨mk, 0, none⟩ (.int .i64 l')) base wk ak mk rv cv A cap zs over l' mo fault ∧ Fx wk ak mk A A w (w.setCell ⟨mk, 0, none⟩ (.int .i64 l')) :=
  h.metered ⟨rfl, rfl, rfl⟩ (by simp [World.setCell]) (fun k hk => Below.heap_setCell _ _ _ _ hk) (by rw [blk_set h.met 0]; rfl)
theorem JwSt.out (h : JwSt w base wk ak mk rv cv A cap zs over left mo fault) (l' : Int) : JwSt ((w.setCell ⟨mk, 0, none⟩ (.int .i64 l')).setCell ⟨mk, 1, none⟩ (.bool true)) base wk ak mk rv cv A cap zs over l' true fault ∧ Fx wk ak mk A A w ((w.setCell ⟨mk, 0, none⟩ (.int .i64 l')).setCell ⟨mk, 1, none⟩ (.bool true)) := by
  have h1 := h.took l'
  have h2 := h1.1.metered (w' := (w.setCell ⟨mk, 0, none⟩ (.int .i64 l')).setCell ⟨mk, 1, none⟩ (.bool true)) (left' := l') (mo' := true) ⟨rfl, rfl, rfl⟩ (by simp [World.setCell]) (fun k hk => Below.heap_setCell _ _ _ _ hk) (by rw [blk_set h1.1.met 1]; rfl)
  exact ⟨h2.1, h1.2.trans h2.2⟩
theorem JwSt.meter (h : JwSt w base wk ak mk rv cv A cap zs over left mo fault) : IsMeter w mk left mo := ⟨blk_cell h.met 0, blk_cell h.met 1, blk_frozen h.met 0, blk_frozen h.met 1⟩
theorem JwSt.lts (h : JwSt w base wk ak mk rv cv A cap zs over left mo fault) : wk < w.heap.size ∧ ak < w.heap.size ∧ mk < w.heap.size ∧ ∀ r, rowOf A = some r → r < w.heap.size := ⟨blk_lt h.blk, h.arena.lt, blk_lt h.met, fun r hr => (h.arena.own.row r hr).2⟩
end
def JwGo (base wk ak mk : Nat) (rv cv : Value) (A : Option Addr) (L : Int) (enc : List Int) (pay : Int) (W : World) : Prop :=
  ∃ cap left, JwSt W base wk ak mk rv cv A cap enc false left false 0 ∧ L - pay ≤ left ∧ 0 ≤ left ∧ left ≤ 9223372036854775807
def JwOff (base wk ak mk : Nat) (rv cv : Value) (A : Option Addr) (L : Int) (enc : List Int) (pay : Int) (W : World) : Prop :=
  ∃ cap zs over left mo f, JwSt W base wk ak mk rv cv A cap zs over left mo f ∧ ((f = 0 ∧ over = true ∧ mo = false ∧ 32768 < enc.length) ∨ (f = 3 ∧ L < pay))
def JwAt (base wk ak mk : Nat) (rv cv : Value) (A : Option Addr) (L : Int) (enc : List Int) (pay : Int) (W : World) : Prop :=
  JwGo base wk ak mk rv cv A L enc pay W ∨ JwOff base wk ak mk rv cv A L enc pay W
def JwTo (base wk ak mk : Nat) (rv cv : Value) (A : Option Addr) (L : Int) (enc : List Int) (pay : Int) (w W : World) : Prop :=
  ∃ A', JwAt base wk ak mk rv cv A' L enc pay W ∧ Fx wk ak mk A A' w W
section
variable {w : World} {base wk ak mk : Nat} {rv cv : Value} {A : Option Addr} {L pay pay' : Int} {enc : List Int}
theorem JwGo.below {w' : World} (h : JwGo base wk ak mk rv cv A L enc pay w) (hb : Below w.heap.size w w') : JwGo base wk ak mk rv cv A L enc pay w' := by
  obtain ⟨cap, left, h1, h2⟩ := h
  exact ⟨cap, left, h1.below hb, h2⟩
theorem JwOff.below {w' : World} (h : JwOff base wk ak mk rv cv A L enc pay w) (hb : Below w.heap.size w w') : JwOff base wk ak mk rv cv A L enc pay w' := by
  obtain ⟨cap, zs, ov, left, mo, f, h1, h2⟩ := h
  exact ⟨cap, zs, ov, left, mo, f, h1.below hb, h2⟩
theorem JwAt.below {w' : World} (h : JwAt base wk ak mk rv cv A L enc pay w) (hb : Below w.heap.size w w') : JwAt base wk ak mk rv cv A L enc pay w' := h.imp (·.below hb) (·.below hb)
theorem JwGo.more (h : JwGo base wk ak mk rv cv A L enc pay w) (hp : pay ≤ pay') : JwGo base wk ak mk rv cv A L enc pay' w := by
  obtain ⟨cap, left, h1, h2, h3⟩ := h
  exact ⟨cap, left, h1, by omega, h3⟩
theorem JwOff.more {enc' : List Int} (h : JwOff base wk ak mk rv cv A L enc pay w) (he : enc.length ≤ enc'.length) (hp : pay ≤ pay') : JwOff base wk ak mk rv cv A L enc' pay' w := by
  obtain ⟨cap, zs, ov, left, mo, f, h1, h2⟩ := h
  refine ⟨cap, zs, ov, left, mo, f, h1, ?_⟩
  rcases h2 with ⟨a, b, b2, c⟩ | ⟨a, b⟩
  · exact .inl ⟨a, b, b2, by omega⟩
  · exact .inr ⟨a, by omega⟩
theorem JwAt.more (h : JwAt base wk ak mk rv cv A L enc pay w) (hp : pay ≤ pay') : JwAt base wk ak mk rv cv A L enc pay' w := h.imp (·.more hp) (·.more (Nat.le_refl _) hp)
theorem JwAt.lts (h : JwAt base wk ak mk rv cv A L enc pay w) : wk < w.heap.size ∧ ak < w.heap.size ∧ mk < w.heap.size ∧ (∀ r, rowOf A = some r → r < w.heap.size) ∧ base ≤ wk := by
  rcases h with ⟨_, _, h, _⟩ | ⟨_, _, _, _, _, _, h, _⟩
  · exact ⟨h.lts.1, h.lts.2.1, h.lts.2.2.1, h.lts.2.2.2, h.hb⟩
  · exact ⟨h.lts.1, h.lts.2.1, h.lts.2.2.1, h.lts.2.2.2, h.hb⟩
theorem JwTo.refl (h : JwAt base wk ak mk rv cv A L enc pay w) : JwTo base wk ak mk rv cv A L enc pay w w := ⟨A, h, Fx.refl wk ak mk A w⟩
theorem JwTo.more {w' : World} (h : JwTo base wk ak mk rv cv A L enc pay w w') (hp : pay ≤ pay') : JwTo base wk ak mk rv cv A L enc pay' w w' := by
  obtain ⟨A', h1, h2⟩ := h
  exact ⟨A', h1.more hp, h2⟩
theorem JwTo.below {w' w2 : World} (h : JwTo base wk ak mk rv cv A L enc pay w w') (hb : Below w'.heap.size w' w2) : JwTo base wk ak mk rv cv A L enc pay w w2 := by
  obtain ⟨A', h1, h2⟩ := h
  exact ⟨A', h1.below hb, h2.trans (.of_below A' hb)⟩
theorem JwTo.from {w1 w2 : World} {A1 : Option Addr} (hx : Fx wk ak mk A A1 w w1) (h : JwTo base wk ak mk rv cv A1 L enc pay w1 w2) : JwTo base wk ak mk rv cv A L enc pay w w2 := by
  obtain ⟨A', h1, h2⟩ := h
  exact ⟨A', h1, hx.trans h2⟩
end
end Go.Proofs.YtiknhkkeifemcaaGreatDoor
