/-
  Views and lists as interface values, by the blocks that they depend on: what it means that one shows a value, also while other blocks are written. Conditions: those that each theorem names.
-/
import Derived.Test.YtiknhkkeifemcaaGreatDoorPkN4
import Derived.Test.YtiknhkkeifemcaaGreatDoorPkN23
import Derived.Test.YtiknhkkeifemcaaGreatDoorPkN27
namespace Go.Proofs.YtiknhkkeifemcaaGreatDoor
open Go.ChangeShapes Go.WideShapes Go.ChangeAt Go.RowKit Go.Shelf

structure Meth (d : Nat) (T : TypeId) (r : Value) (name : String) (f : FuncId) (rv : Value) : Prop where
  finds : ∀ (N : Nat) (W : World), (method (N + d) T r name).run Tryz.prog W = .ok (f, rv) W
  enters : ∀ (args : Array Value) (W : World), (callFunc f args).run Tryz.prog W = .ok (.enter f args) W
theorem Meth.at {d : Nat} {T : TypeId} {r : Value} {name : String} {f : FuncId} {rv : Value} (h : Meth d T r name f rv) (hd : d ≤ 2) (M : Nat) (W : World) (hN : M = Tryz.prog.types.size + Made.depth) : (method M T r name).run Tryz.prog W = .ok (f, rv) W := by
  obtain ⟨N, rfl⟩ : ∃ N, M = N + d := by
    generalize Tryz.prog.types.size = s at hN
    have h2 : 2 ≤ Made.depth := by decide
    exact ⟨M - d, by omega⟩
  exact h.finds N W
def Says (d : Nat) (w : World) (v : Value) (name : String) (i : Int) (Q : World → Ending → World → Prop) : Prop :=
  ∃ T r f rv, v = .iface T r ∧ Meth d T r name f rv ∧ ∀ W, Below w.heap.size w W → Calls Tryz.prog f #[rv, .int .i64 i] W fun e w' => Q W e w' ∧ Below W.heap.size W w'
def SubQ (next : World → Value → Nat → Int → Int → PV → Prop) (b : Bool) (k : Nat) (ref lists : Int) (q : PV) (e : Ending) (w' : World) : Prop :=
  (∃ sv, e = .returned (if b = true then .tuple #[sv, .bool true] else sv) ∧ next w' sv k ref lists q) ∨ (b = true ∧ e = .returned (.tuple #[.nilIface, .bool false]) ∧ q = nilV)
def dep (b : Bool) : Nat := if b = true then 2 else 1
structure AskOk (next : World → Value → Nat → Int → Int → PV → Prop) (b : Bool) (w : World) (v : Value) (i k : Nat) (ref lists : Int) (q : PV) : Prop where
  sort : 1 ≤ sortP k lists
  num : sortP k lists = 1 → q = numV q.num ∧ (q.num : Int) ≤ 18446744073709551615 ∧ Says (dep b) w v "Num" i (fun _ e _ => e = .returned (.int .u64 q.num))
  bytes : sortP k lists = 2 → q = .mk 0 q.bytes [] false ∧ q.bytes.length ≤ 1000000 ∧ Says (dep b) w v "Bytes" i (fun _ e w' => ∃ A c, e = .returned (.slice A q.bytes.length c) ∧ Bytes w' A q.bytes)
  list : sortP k lists = 3 → Says (dep b) w v "List" i (fun _ e w' => ∃ lv, e = .returned lv ∧ next w' lv k ref lists q)
  sub : sortP k lists = 4 → Says (dep b) w v "Sub" i (fun _ e w' => SubQ next b k ref lists q e w')
theorem AskOk.iface {next : World → Value → Nat → Int → Int → PV → Prop} {b : Bool} {w : World} {v : Value} {i k : Nat} {ref lists : Int} {q : PV} (h : AskOk next b w v i k ref lists q) : ∃ T r, v = .iface T r := by
  have h1 := h.sort
  have h2 : sortP k lists ≤ 4 := by unfold sortP; split <;> (try split) <;> (try split) <;> (try split) <;> (try split) <;> omega
  have h3 : sortP k lists = 1 ∨ sortP k lists = 2 ∨ sortP k lists = 3 ∨ sortP k lists = 4 := by omega
  rcases h3 with h3 | h3 | h3 | h3
  · obtain ⟨_, _, T, r, _, _, hv, _⟩ := h.num h3
    exact ⟨T, r, hv⟩
  · obtain ⟨_, _, T, r, _, _, hv, _⟩ := h.bytes h3
    exact ⟨T, r, hv⟩
  · obtain ⟨T, r, _, _, hv, _⟩ := h.list h3
    exact ⟨T, r, hv⟩
  · obtain ⟨T, r, _, _, hv, _⟩ := h.sub h3
    exact ⟨T, r, hv⟩
structure ListHead (w : World) (v : Value) (q : PV) : Prop where
  bare : q.num = 0 ∧ q.bytes = [] ∧ q.has = false
  few : q.kids.length ≤ 1000000
  len : (v = .nilIface ∧ q.kids = []) ∨ ∃ T r f rv, v = .iface T r ∧ Meth 1 T r "Len" f rv ∧ ∀ W, Below w.heap.size w W → Calls Tryz.prog f #[rv] W fun e w' => e = .returned (.int .i64 q.kids.length) ∧ Below W.heap.size W w'
def recAt (ss : List CRec) (ref : Int) : CRec := ss.getD ref.toNat ⟨⟨#[]⟩, []⟩
structure StructHead (ss : List CRec) (v : Value) (ref : Int) (q : PV) : Prop where
  there : ∃ T r, v = .iface T r
  bare : q.num = 0 ∧ q.bytes = [] ∧ q.has = true
  within : 0 ≤ ref ∧ ref < ss.length
  few : q.kids.length = (recAt ss ref).fields.length
def Shown (ss : List CRec) : Nat → World → Value → Nat → Int → Int → PV → Prop
  | 0, w, v, k, _, lists, q => sortP k lists = 3 ∧ ListHead w v q ∧ q.kids = []
  | r + 1, w, v, k, ref, lists, q =>
    (sortP k lists = 3 ∧ ListHead w v q ∧ ∀ j (hj : j < q.kids.length), AskOk (Shown ss r) false w v j k ref (lists - 1) (q.kids[j]'hj)) ∨
    (sortP k lists = 4 ∧ StructHead ss v ref q ∧ ∀ j (hj : j < q.kids.length) (hf : j < (recAt ss ref).fields.length), AskOk (Shown ss r) true w v j ((recAt ss ref).fields[j]'hf).kind ((recAt ss ref).fields[j]'hf).ref ((recAt ss ref).fields[j]'hf).lists (q.kids[j]'hj))
theorem Says.later {d : Nat} {w w2 : World} {v : Value} {name : String} {i : Int} {Q : World → Ending → World → Prop} (h : Says d w v name i Q) (hb : Below w.heap.size w w2) : Says d w2 v name i Q := by
  obtain ⟨T, r, f, rv, hv, hm, hc⟩ := h
  exact ⟨T, r, f, rv, hv, hm, fun W hW => hc W (hb.trans (hW.mono hb.size))⟩
theorem AskOk.later {next : World → Value → Nat → Int → Int → PV → Prop} {b : Bool} {w w2 : World} {v : Value} {i k : Nat} {ref lists : Int} {q : PV} (h : AskOk next b w v i k ref lists q) (hb : Below w.heap.size w w2) : AskOk next b w2 v i k ref lists q :=
  ⟨h.sort, fun hs => ⟨(h.num hs).1, (h.num hs).2.1, (h.num hs).2.2.later hb⟩, fun hs => ⟨(h.bytes hs).1, (h.bytes hs).2.1, (h.bytes hs).2.2.later hb⟩, fun hs => (h.list hs).later hb, fun hs => (h.sub hs).later hb⟩
theorem ListHead.later {w w2 : World} {v : Value} {q : PV} (h : ListHead w v q) (hb : Below w.heap.size w w2) : ListHead w2 v q :=
  ⟨h.bare, h.few, by
    rcases h.len with h1 | ⟨T, r, f, rv, hv, hm, hc⟩
    · exact .inl h1
    · exact .inr ⟨T, r, f, rv, hv, hm, fun W hW => hc W (hb.trans (hW.mono hb.size))⟩⟩
theorem Shown.later {ss : List CRec} : ∀ (n : Nat) {w w2 : World} {v : Value} {k : Nat} {ref lists : Int} {q : PV}, Shown ss n w v k ref lists q → Below w.heap.size w w2 → Shown ss n w2 v k ref lists q
  | 0, _, _, _, _, _, _, _, h, hb => ⟨h.1, h.2.1.later hb, h.2.2⟩
  | _ + 1, _, _, _, _, _, _, _, h, hb => by
    rcases h with ⟨h1, h2, h3⟩ | ⟨h1, h2, h3⟩
    · exact .inl ⟨h1, h2.later hb, fun j hj => (h3 j hj).later hb⟩
    · exact .inr ⟨h1, h2, fun j hj hf => (h3 j hj hf).later hb⟩
end Go.Proofs.YtiknhkkeifemcaaGreatDoor
namespace Go.Proofs.YtiknhkkeifemcaaGreatDoor
open Go.ChangeShapes Go.WideShapes Go.ChangeAt Go.RowKit Go.Shelf

structure OutD (D : Nat → Prop) (w W : World) : Prop where
  os : W.os = w.os
  tape : W.tape = w.tape
  output : W.output = w.output
  size : w.heap.size ≤ W.heap.size
  block : ∀ k, D k → W.heap[k]? = w.heap[k]?
theorem OutD.refl (D : Nat → Prop) (w : World) : OutD D w w := ⟨rfl, rfl, rfl, Nat.le_refl _, fun _ _ => rfl⟩
theorem OutD.trans {D : Nat → Prop} {a b c : World} (h : OutD D a b) (k : OutD D b c) : OutD D a c := ⟨k.os.trans h.os, k.tape.trans h.tape, k.output.trans h.output, Nat.le_trans h.size k.size, fun i hi => (k.block i hi).trans (h.block i hi)⟩
theorem OutD.of_below {D : Nat → Prop} {w W : World} (hD : ∀ k, D k → k < w.heap.size) (h : Below w.heap.size w W) : OutD D w W := ⟨h.os, h.tape, h.output, h.size, fun k hk => h.block k (hD k hk)⟩
def SaysD (D : Nat → Prop) (d : Nat) (w : World) (v : Value) (name : String) (i : Int) (Q : World → Ending → World → Prop) : Prop :=
  ∃ T r f rv, v = .iface T r ∧ Meth d T r name f rv ∧ ∀ W, OutD D w W → Calls Tryz.prog f #[rv, .int .i64 i] W fun e w' => Q W e w' ∧ Below W.heap.size W w'
abbrev NextSh := (Nat → Prop) → World → Value → Nat → Int → Int → PV → Prop
def HandD (next : NextSh) (D : Nat → Prop) (W w' : World) (v : Value) (k : Nat) (ref lists : Int) (q : PV) : Prop := ∃ D', (∀ j, D' j → (D j ∨ W.heap.size ≤ j) ∧ j < w'.heap.size) ∧ next D' w' v k ref lists q
def SubD (next : NextSh) (D : Nat → Prop) (b : Bool) (k : Nat) (ref lists : Int) (q : PV) (W : World) (e : Ending) (w' : World) : Prop :=
  (∃ sv, e = .returned (if b = true then .tuple #[sv, .bool true] else sv) ∧ HandD next D W w' sv k ref lists q) ∨ (b = true ∧ e = .returned (.tuple #[.nilIface, .bool false]) ∧ q = nilV)
def FreshB (W w' : World) (A : Option Addr) (c : Nat) (bs : List Int) : Prop := Bytes w' A bs ∧ bs.length ≤ c ∧ (A = none → c = 0) ∧ ∀ g, rowOf A = some g → W.heap.size ≤ g ∧ g < w'.heap.size
structure AskD (next : NextSh) (D : Nat → Prop) (b : Bool) (w : World) (v : Value) (i k : Nat) (ref lists : Int) (q : PV) : Prop where
  sort : 1 ≤ sortP k lists
  num : sortP k lists = 1 → q = numV q.num ∧ (q.num : Int) ≤ 18446744073709551615 ∧ SaysD D (dep b) w v "Num" i (fun _ e _ => e = .returned (.int .u64 q.num))
  bytes : sortP k lists = 2 → q = .mk 0 q.bytes [] false ∧ q.bytes.length ≤ 1000000 ∧ SaysD D (dep b) w v "Bytes" i (fun W e w' => ∃ A c, e = .returned (.slice A q.bytes.length c) ∧ FreshB W w' A c q.bytes)
  list : sortP k lists = 3 → SaysD D (dep b) w v "List" i (fun W e w' => ∃ lv, e = .returned lv ∧ HandD next D W w' lv k ref lists q)
  sub : sortP k lists = 4 → SaysD D (dep b) w v "Sub" i (fun W e w' => SubD next D b k ref lists q W e w')
structure ListHeadD (D : Nat → Prop) (w : World) (v : Value) (q : PV) : Prop where
  bare : q.num = 0 ∧ q.bytes = [] ∧ q.has = false
  few : q.kids.length ≤ 1000000
  len : (v = .nilIface ∧ q.kids = []) ∨ ∃ T r f rv, v = .iface T r ∧ Meth 1 T r "Len" f rv ∧ ∀ W, OutD D w W → Calls Tryz.prog f #[rv] W fun e w' => e = .returned (.int .i64 q.kids.length) ∧ Below W.heap.size W w'
def ShownD (ss : List CRec) : Nat → NextSh
  | 0, D, w, v, k, _, lists, q => sortP k lists = 3 ∧ ListHeadD D w v q ∧ q.kids = []
  | r + 1, D, w, v, k, ref, lists, q =>
    (sortP k lists = 3 ∧ ListHeadD D w v q ∧ ∀ j (hj : j < q.kids.length), AskD (ShownD ss r) D false w v j k ref (lists - 1) (q.kids[j]'hj)) ∨
    (sortP k lists = 4 ∧ StructHead ss v ref q ∧ ∀ j (hj : j < q.kids.length) (hf : j < (recAt ss ref).fields.length), AskD (ShownD ss r) D true w v j ((recAt ss ref).fields[j]'hf).kind ((recAt ss ref).fields[j]'hf).ref ((recAt ss ref).fields[j]'hf).lists (q.kids[j]'hj))
theorem SaysD.later {D : Nat → Prop} {d : Nat} {w w2 : World} {v : Value} {name : String} {i : Int} {Q : World → Ending → World → Prop} (h : SaysD D d w v name i Q) (hb : OutD D w w2) : SaysD D d w2 v name i Q := by
  obtain ⟨T, r, f, rv, hv, hm, hc⟩ := h
  exact ⟨T, r, f, rv, hv, hm, fun W hW => hc W (hb.trans hW)⟩
theorem AskD.later {next : NextSh} {D : Nat → Prop} {b : Bool} {w w2 : World} {v : Value} {i k : Nat} {ref lists : Int} {q : PV} (h : AskD next D b w v i k ref lists q) (hb : OutD D w w2) : AskD next D b w2 v i k ref lists q :=
  ⟨h.sort, fun hs => ⟨(h.num hs).1, (h.num hs).2.1, (h.num hs).2.2.later hb⟩, fun hs => ⟨(h.bytes hs).1, (h.bytes hs).2.1, (h.bytes hs).2.2.later hb⟩, fun hs => (h.list hs).later hb, fun hs => (h.sub hs).later hb⟩
theorem ListHeadD.later {D : Nat → Prop} {w w2 : World} {v : Value} {q : PV} (h : ListHeadD D w v q) (hb : OutD D w w2) : ListHeadD D w2 v q :=
  ⟨h.bare, h.few, by
    rcases h.len with h1 | ⟨T, r, f, rv, hv, hm, hc⟩
    · exact .inl h1
    · exact .inr ⟨T, r, f, rv, hv, hm, fun W hW => hc W (hb.trans hW)⟩⟩
theorem ShownD.later {ss : List CRec} : ∀ (n : Nat) {D : Nat → Prop} {w w2 : World} {v : Value} {k : Nat} {ref lists : Int} {q : PV}, ShownD ss n D w v k ref lists q → OutD D w w2 → ShownD ss n D w2 v k ref lists q
  | 0, _, _, _, _, _, _, _, _, h, hb => ⟨h.1, h.2.1.later hb, h.2.2⟩
  | _ + 1, _, _, _, _, _, _, _, _, h, hb => by
    rcases h with ⟨h1, h2, h3⟩ | ⟨h1, h2, h3⟩
    · exact .inl ⟨h1, h2.later hb, fun j hj => (h3 j hj).later hb⟩
    · exact .inr ⟨h1, h2, fun j hj hf => (h3 j hj hf).later hb⟩
theorem ShownD.shown {ss : List CRec} : ∀ (n : Nat) {D : Nat → Prop} {w : World} {v : Value} {k : Nat} {ref lists : Int} {q : PV}, ShownD ss n D w v k ref lists q → (∀ j, D j → j < w.heap.size) → Shown ss n w v k ref lists q := by
  intro n
  induction n with
  | zero =>
    intro D w v k ref lists q h hD
    refine ⟨h.1, ⟨h.2.1.bare, h.2.1.few, ?_⟩, h.2.2⟩
    rcases h.2.1.len with h1 | ⟨T, r, f, rv, hv, hm, hc⟩
    · exact .inl h1
    · exact .inr ⟨T, r, f, rv, hv, hm, fun W hW => hc W (.of_below hD hW)⟩
  | succ n ih =>
    have ask : ∀ {D : Nat → Prop} {b : Bool} {w : World} {v : Value} {i k : Nat} {ref lists : Int} {q : PV}, (∀ j, D j → j < w.heap.size) → AskD (ShownD ss n) D b w v i k ref lists q → AskOk (Shown ss n) b w v i k ref lists q := by
      intro D b w v i k ref lists q hD h
      have hnew : ∀ {W w' : World} {lv : Value} {k : Nat} {ref lists : Int} {q : PV}, HandD (ShownD ss n) D W w' lv k ref lists q → Shown ss n w' lv k ref lists q := by
        rintro W w' lv k ref lists q ⟨D', hD', hs⟩
        exact ih hs (fun j hj => (hD' j hj).2)
      refine ⟨h.sort, fun hs => ⟨(h.num hs).1, (h.num hs).2.1, ?_⟩, fun hs => ⟨(h.bytes hs).1, (h.bytes hs).2.1, ?_⟩, fun hs => ?_, fun hs => ?_⟩
      · obtain ⟨T, r, f, rv, hv, hm, hc⟩ := (h.num hs).2.2
        exact ⟨T, r, f, rv, hv, hm, fun W hW => hc W (.of_below hD hW)⟩
      · obtain ⟨T, r, f, rv, hv, hm, hc⟩ := (h.bytes hs).2.2
        refine ⟨T, r, f, rv, hv, hm, fun W hW => (hc W (.of_below hD hW)).mono ?_⟩
        rintro e w' ⟨⟨A, c, he, hby⟩, hb⟩
        exact ⟨⟨A, c, he, hby.1⟩, hb⟩
      · obtain ⟨T, r, f, rv, hv, hm, hc⟩ := h.list hs
        refine ⟨T, r, f, rv, hv, hm, fun W hW => (hc W (.of_below hD hW)).mono ?_⟩
        rintro e w' ⟨⟨lv, he, hn⟩, hb⟩
        exact ⟨⟨lv, he, hnew hn⟩, hb⟩
      · obtain ⟨T, r, f, rv, hv, hm, hc⟩ := h.sub hs
        refine ⟨T, r, f, rv, hv, hm, fun W hW => (hc W (.of_below hD hW)).mono ?_⟩
        rintro e w' ⟨hq, hb⟩
        refine ⟨?_, hb⟩
        rcases hq with ⟨sv, he, hn⟩ | hq
        · exact .inl ⟨sv, he, hnew hn⟩
        · exact .inr hq
    intro D w v k ref lists q h hD
    rcases h with ⟨h1, h2, h3⟩ | ⟨h1, h2, h3⟩
    · refine .inl ⟨h1, ⟨h2.bare, h2.few, ?_⟩, fun j hj => ask hD (h3 j hj)⟩
      rcases h2.len with h4 | ⟨T, r, f, rv, hv, hm, hc⟩
      · exact .inl h4
      · exact .inr ⟨T, r, f, rv, hv, hm, fun W hW => hc W (.of_below hD hW)⟩
    · exact .inr ⟨h1, h2, fun j hj hf => ask hD (h3 j hj hf)⟩
end Go.Proofs.YtiknhkkeifemcaaGreatDoor
