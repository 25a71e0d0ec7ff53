/-
  The hand's Made: the loop over a struct's fields. Conditions: those that each theorem names.
-/
import Derived.Test.YtiknhkkeifemcaaGreatDoorPkN17
import Derived.Deep.RegionHeld3
namespace Go.Proofs.YtiknhkkeifemcaaGreatDoor
open Go.ChangeShapes Go.WideShapes Go.ChangeAt Go.RowKit Go.Shelf

structure PFAt (w : World) (a : Option Addr) (k : Nat) (f : PF) (B off : Nat) : Prop where
  ha : a = some ⟨B, off, none⟩
  hB : B < w.heap.size
  x0 : w.cell? ⟨B, off + k * 5, none⟩ = some (.int .u8 (f.kind : Nat))
  x1 : w.cell? ⟨B, off + k * 5 + 1, none⟩ = some (.int .u8 (f.lists : Nat))
  x2 : w.cell? ⟨B, off + k * 5 + 2, none⟩ = some (.int .u8 (f.ref : Nat))
  x3 : w.cell? ⟨B, off + k * 5 + 3, none⟩ = some (.int .u8 (f.name : Nat))
  x4 : w.cell? ⟨B, off + k * 5 + 4, none⟩ = some (.int .u64 (f.dflt : Nat))
  l0 : f.kind ≤ 255
  l1 : f.lists ≤ 255
  l2 : f.ref ≤ 255
  l3 : f.name ≤ 255
  l4 : (f.dflt : Int) ≤ 18446744073709551615
theorem u8_in (n : Int) (h0 : 0 ≤ n) (h1 : n ≤ 255) : IntKind.u8.wrap n = n := by simp only [IntKind.wrap, IntKind.bits, IntKind.signed]; simp; omega
def MTyAt (W : World) (T kd rf ls : Nat) : Prop := W.heap[T]? = some (.cells #[.int .u8 kd, .int .i64 rf, .int .i64 ls] 47 (0, 0))
def findRegion (n : Nat) : Code → Option Code
  | .loop c => findRegion n c
  | .seq a b => match findRegion n a with
    | some c => some c
    | none => findRegion n b
  | .block _ c => findRegion n c
  | .scope c => findRegion n c
  | .cond _ a b => match findRegion n a with
    | some c => some c
    | none => findRegion n b
  | .region m ops d => if m = n then some (.region m ops d) else none
  | _ => none
def isRegion (n : Nat) : Code → Bool
  | .region m _ _ => m == n
  | _ => false
def afterRegion (n : Nat) : Code → Option Code
  | .loop c => afterRegion n c
  | .seq a b => if isRegion n a then some b else match afterRegion n a with
    | some c => some c
    | none => afterRegion n b
  | .block _ c => afterRegion n c
  | .scope c => afterRegion n c
  | .cond _ a b => match afterRegion n a with
    | some c => some c
    | none => afterRegion n b
  | _ => none
noncomputable def made34 : Code := (Tryz.f15.body.bind (findRegion 34)).getD .skip
noncomputable def made35 : Code := (Tryz.f15.body.bind (afterRegion 34)).getD .skip
theorem blk5 {w : World} {g : Nat} {x0 x1 x2 x3 x4 : Value} {t : TypeId} (h : w.heap[g]? = some (.cells #[x0, x1, x2, x3, x4] t (0, 0))) :
    g < w.heap.size ∧ w.cell? ⟨g, 0, none⟩ = some x0 ∧ w.cell? ⟨g, 1, none⟩ = some x1 ∧ w.cell? ⟨g, 2, none⟩ = some x2 ∧ w.cell? ⟨g, 3, none⟩ = some x3 ∧ w.cell? ⟨g, 4, none⟩ = some x4 ∧
      w.frozen? ⟨g, 0, none⟩ = false ∧ w.frozen? ⟨g, 1, none⟩ = false ∧ w.frozen? ⟨g, 2, none⟩ = false ∧ w.frozen? ⟨g, 3, none⟩ = false ∧ w.frozen? ⟨g, 4, none⟩ = false :=
  ⟨blk_lt h, (blk_cell h 0).trans rfl, (blk_cell h 1).trans rfl, (blk_cell h 2).trans rfl, (blk_cell h 3).trans rfl, (blk_cell h 4).trans rfl, blk_frozen h 0, blk_frozen h 1, blk_frozen h 2, blk_frozen h 3, blk_frozen h 4⟩
theorem blk_set5 {w : World} {g : Nat} {a b c d e : Value} {t : TypeId} (h : w.heap[g]? = some (.cells #[a, b, c, d, e] t (0, 0))) (x0 x1 x2 x3 x4 : Value) :
    (((((w.setCell ⟨g, 0, none⟩ x0).setCell ⟨g, 1, none⟩ x1).setCell ⟨g, 2, none⟩ x2).setCell ⟨g, 3, none⟩ x3).setCell ⟨g, 4, none⟩ x4).heap[g]? = some (.cells #[x0, x1, x2, x3, x4] t (0, 0)) :=
  (blk_set (blk_set (blk_set (blk_set (blk_set h 0 x0) 1 x1) 2 x2) 3 x3) 4 x4).trans rfl
theorem gfact {W W3 : World} {cs : Array Value} {t : TypeId} (hb : Below (W.alloc (.cells cs t)).heap.size (W.alloc (.cells cs t)) W3) : W3.heap[W.heap.size]? = some (.cells cs t (0, 0)) := (hb.block _ (by simp)).trans (heap_alloc_new W _)
theorem gfact_drew {W W3 : World} {cs : Array Value} {t : TypeId} (hb : Below (W.alloc (.cells cs t)).drew.heap.size (W.alloc (.cells cs t)).drew W3) : W3.heap[W.heap.size]? = some (.cells cs t (0, 0)) := (hb.block _ (by show _ < (W.alloc _).heap.size; simp)).trans (heap_alloc_new W _)
theorem bfact {W W3 : World} {o : Obj} (hb : Below (W.alloc o).heap.size (W.alloc o) W3) : Below W.heap.size W W3 := ((Below.refl _ W).alloc (Nat.le_refl _) _).trans (hb.mono (by simp))
theorem bfact_drew {W W3 : World} (hb : Below W.drew.heap.size W.drew W3) : Below W.heap.size W W3 := (Below.refl _ W).drew.trans hb
theorem bfact_alloc_drew {W W3 : World} {o : Obj} (hb : Below (W.alloc o).drew.heap.size (W.alloc o).drew W3) : Below W.heap.size W W3 := ((Below.refl _ W).alloc (Nat.le_refl _) _).drew.trans (hb.mono (by show _ ≤ (W.alloc _).heap.size; simp))
theorem keep5 {w : World} {g : Nat} {p : Addr} {v x0 x1 x2 x3 x4 : Value} (h : w.cell? p = some v) (hp : p.block ≠ g) :
    (((((w.setCell ⟨g, 0, none⟩ x0).setCell ⟨g, 1, none⟩ x1).setCell ⟨g, 2, none⟩ x2).setCell ⟨g, 3, none⟩ x3).setCell ⟨g, 4, none⟩ x4).cell? p = some v := by
  have e : ∀ (w : World) (i : Nat) (x : Value), (w.setCell ⟨g, i, none⟩ x).cell? p = w.cell? p := fun w i x => World.cell?_of_block (Below.heap_setCell _ _ _ _ hp)
  rw [e, e, e, e, e, h]
def FldAt (W : World) (G : Nat) (f : SFld) : Prop := W.heap[G]? = some (.cells #[.string f.name, .int .u8 f.kind, .int .i64 f.ref, .int .i64 f.lists, .int .u64 f.dflt] 60 (0, 0))
set_option maxRecDepth 100000 in
set_option maxHeartbeats 4000000 in
theorem fld_wp {K : Act → World → Prop} {Q : Exit → Act → World → Prop} {c : Act} {w W : World} {f : PF} {a : Option Addr} {b i n c0 R k T B off kd rf ls : Nat} (hc : FrE b i a n c0 R k T c) (hf : PFAt w a k f B off) (hbw : Below w.heap.size w W) (hkn : k < n) (hn : n ≤ 16) (ht : MTyAt W T kd rf ls)
    (hK : ∀ c' w' G, FrF b i a n c0 R k T G c' → W.heap.size ≤ G → Below W.heap.size W w' → FldAt w' G ⟨labelOf f.name k, kd, rf, ls, 0⟩ → K c' w') :
    Code.wp Tryz.prog made34 (Exit.then K Q) c W := by
  obtain ⟨u, rfl⟩ := fre_lit hc
  obtain ⟨rfl, hB, x0, x1, x2, x3, x4, l0, l1, l2, l3, l4⟩ := hf
  have HK := Lib.hid hK
  have HL := Lib.hid (hlabel_any f.name k)
  have y3 := (hbw.cell (p := ⟨B, off + k * 5 + 3, none⟩) hB).trans x3
  have hBW : B < W.heap.size := Nat.lt_of_lt_of_le hB hbw.size
  have hTW : T < W.heap.size := blk_lt ht
  obtain ⟨_, t0, t1, t2, _⟩ := blk3 ht
  have hki : (k : Int) < n := by omega
  have hk16 : k < 16 := by omega
  clear hc hK x0 x1 x2 x3 x4 l0 l1 l2 l4 hbw hB ht
  conv => arg 2; whnf
  have hBne : B ≠ W.heap.size := by omega
  have hTne : T ≠ W.heap.size := by omega
  have HCC := Lib.hid (show ∀ W3, Below W.heap.size W W3 → W3.cell? ⟨B, off + k * 5 + 3, none⟩ = some (.int .u8 (f.name : Nat)) ∧ W3.cell? ⟨T, 0, none⟩ = some (.int .u8 kd) ∧ W3.cell? ⟨T, 1, none⟩ = some (.int .i64 rf) ∧ W3.cell? ⟨T, 2, none⟩ = some (.int .i64 ls) from fun W3 hb3 => ⟨(hb3.cell (p := ⟨B, off + k * 5 + 3, none⟩) hBW).trans y3, (hb3.cell (p := ⟨T, 0, none⟩) hTW).trans t0, (hb3.cell (p := ⟨T, 1, none⟩) hTW).trans t1, (hb3.cell (p := ⟨T, 2, none⟩) hTW).trans t2⟩)
  go_region_held3 (fun w' => w'.cell? ⟨B, off + k * 5 + 3, none⟩ = some (.int .u8 (f.name : Nat)) ∧ w'.cell? ⟨T, 0, none⟩ = some (.int .u8 kd) ∧ w'.cell? ⟨T, 1, none⟩ = some (.int .i64 rf) ∧ w'.cell? ⟨T, 2, none⟩ = some (.int .i64 ls)) (first | assumption | (with_reducible exact ⟨keep5 k0 hBne, keep5 k1 hTne, keep5 k2 hTne, keep5 k3 hTne⟩) | go_keep)
    (first | (go_at_call 42; (with_reducible refine (HL.out W l3 hk16).mono ?_); rintro e W3 ⟨rfl, hb3⟩; have hbW : Below W.heap.size W W3 := hb3; obtain ⟨k0, k1, k2, k3⟩ := HCC.out W3 hbW) | (go_at_call 42; (with_reducible refine (HL.out W.drew l3 hk16).mono ?_); rintro e W3 ⟨rfl, hb3⟩; have hbW : Below W.heap.size W W3 := bfact_drew hb3; obtain ⟨k0, k1, k2, k3⟩ := HCC.out W3 hbW) | (go_at_call 42; (with_reducible refine (HL.out (W.alloc (.cells #[.string ⟨#[]⟩, .int .u8 0, .int .i64 0, .int .i64 0, .int .u64 0] 60)) l3 hk16).mono ?_); rintro e W3 ⟨rfl, hb3⟩; have hbW : Below W.heap.size W W3 := bfact hb3; obtain ⟨k0, k1, k2, k3⟩ := HCC.out W3 hbW; have hGb : W3.heap[W.heap.size]? = some (.cells #[.string ⟨#[]⟩, .int .u8 0, .int .i64 0, .int .i64 0, .int .u64 0] 60 (0, 0)) := gfact hb3; have HGB := Lib.hid hGb; obtain ⟨_, g0, g1, g2, g3, g4, j0, j1, j2, j3, j4⟩ := blk5 hGb; clear hGb) | (go_at_call 42; (with_reducible refine (HL.out (W.alloc (.cells #[.string ⟨#[]⟩, .int .u8 0, .int .i64 0, .int .i64 0, .int .u64 0] 60)).drew l3 hk16).mono ?_); rintro e W3 ⟨rfl, hb3⟩; have hbW : Below W.heap.size W W3 := bfact_alloc_drew hb3; obtain ⟨k0, k1, k2, k3⟩ := HCC.out W3 hbW; have hGb : W3.heap[W.heap.size]? = some (.cells #[.string ⟨#[]⟩, .int .u8 0, .int .i64 0, .int .i64 0, .int .u64 0] 60 (0, 0)) := gfact_drew hb3; have HGB := Lib.hid hGb; obtain ⟨_, g0, g1, g2, g3, g4, j0, j1, j2, j3, j4⟩ := blk5 hGb; clear hGb) | (go_at_call 42; (with_reducible refine (HL.out (W.drew.alloc (.cells #[.string ⟨#[]⟩, .int .u8 0, .int .i64 0, .int .i64 0, .int .u64 0] 60)) l3 hk16).mono ?_); rintro e W3 ⟨rfl, hb3⟩; have hbW : Below W.heap.size W W3 := bfact_drew (bfact hb3); obtain ⟨k0, k1, k2, k3⟩ := HCC.out W3 hbW; have hGb : W3.heap[W.heap.size]? = some (.cells #[.string ⟨#[]⟩, .int .u8 0, .int .i64 0, .int .i64 0, .int .u64 0] 60 (0, 0)) := gfact hb3; have HGB := Lib.hid hGb; obtain ⟨_, g0, g1, g2, g3, g4, j0, j1, j2, j3, j4⟩ := blk5 hGb; clear hGb))
  · exact HK.out _ _ W3.heap.size ⟨rfl, rfl, rfl, rfl, rfl, rfl, rfl, rfl, rfl, rfl, rfl, rfl⟩ hbW.size (hbW.alloc hbW.size _) (heap_alloc_new W3 _)
  · exact HK.out _ _ W.heap.size ⟨rfl, rfl, rfl, rfl, rfl, rfl, rfl, rfl, rfl, rfl, rfl, rfl⟩ (Nat.le_refl _) (((((hbW.setCell (p := ⟨W.heap.size, 0, none⟩) (Nat.le_refl _) _).setCell (p := ⟨W.heap.size, 1, none⟩) (Nat.le_refl _) _).setCell (p := ⟨W.heap.size, 2, none⟩) (Nat.le_refl _) _).setCell (p := ⟨W.heap.size, 3, none⟩) (Nat.le_refl _) _).setCell (p := ⟨W.heap.size, 4, none⟩) (Nat.le_refl _) _) (blk_set5 HGB.out _ _ _ _ _)
end Go.Proofs.YtiknhkkeifemcaaGreatDoor
