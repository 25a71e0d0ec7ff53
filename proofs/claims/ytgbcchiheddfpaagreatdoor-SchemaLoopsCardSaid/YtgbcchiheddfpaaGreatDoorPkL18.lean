/-
  The hand's Made: the loop over the enums. Conditions: those that each theorem names.
-/
import Derived.Test.YtgbcchiheddfpaaGreatDoorPkL17
import Derived.Test.YtgbcchiheddfpaaGreatDoorRows
import Derived.Shelf.Pu.ParseUintPublic10
namespace Go.Proofs.YtgbcchiheddfpaaGreatDoor
open Go.Proofs Go.Shelf
def Tryz.laysPu14_ren : Go.Shelf.Ren := ⟨fun | 14 => 252 | 16 => 255 | 17 => 256 | 19 => 258 | 20 => 259 | 21 => 260 | 22 => 261 | 23 => 262 | 24 => 263 | 25 => 210 | 27 => 265 | 26 => 264 | 28 => 266 | 29 => 267 | 30 => 268 | 31 => 269 | 32 => 270 | 33 => 271 | 35 => 273 | 34 => 272 | 36 => 274 | 37 => 275 | 38 => 276 | 39 => 277 | 40 => 278 | n => n, fun | 9 => 9 | 3 => 3 | 22 => 37 | 24 => 373 | 25 => 374 | 4 => 4 | 34 => 379 | 5 => 5 | 36 => 42 | 37 => 22 | 0 => 0 | 39 => 381 | 21 => 21 | 44 => 385 | 47 => 363 | 50 => 390 | 48 => 388 | 2 => 2 | 52 => 392 | 55 => 395 | 59 => 398 | 60 => 399 | 20 => 20 | 61 => 400 | 65 => 403 | 66 => 404 | 67 => 405 | n => n, fun | 0 => 4 | 1 => 5 | 2 => 6 | 3 => 7 | 4 => 8 | n => n⟩
theorem Tryz.laysPu14 : Go.Proofs.LaysPu.n14 Tryz.prog Tryz.laysPu14_ren := {
  mixed := by kernel_rfl
  f14 := Tryz.func252.trans (congrArg some (by kernel_rfl))
  f16 := Tryz.func255.trans (congrArg some (by kernel_rfl))
  f17 := Tryz.func256.trans (congrArg some (by kernel_rfl))
  f19 := Tryz.func258.trans (congrArg some (by kernel_rfl))
  f20 := Tryz.func259.trans (congrArg some (by kernel_rfl))
  f21 := Tryz.func260.trans (congrArg some (by kernel_rfl))
  f22 := Tryz.func261.trans (congrArg some (by kernel_rfl))
  f23 := Tryz.func262.trans (congrArg some (by kernel_rfl))
  f24 := Tryz.func263.trans (congrArg some (by kernel_rfl))
  f25 := Tryz.func210.trans (congrArg some (by kernel_rfl))
  f26 := Tryz.func264.trans (congrArg some (by kernel_rfl))
  f27 := Tryz.func265.trans (congrArg some (by kernel_rfl))
  f28 := Tryz.func266.trans (congrArg some (by kernel_rfl))
  f29 := Tryz.func267.trans (congrArg some (by kernel_rfl))
  f30 := Tryz.func268.trans (congrArg some (by kernel_rfl))
  f31 := Tryz.func269.trans (congrArg some (by kernel_rfl))
  f32 := Tryz.func270.trans (congrArg some (by kernel_rfl))
  f33 := Tryz.func271.trans (congrArg some (by kernel_rfl))
  f34 := Tryz.func272.trans (congrArg some (by kernel_rfl))
  f35 := Tryz.func273.trans (congrArg some (by kernel_rfl))
  f36 := Tryz.func274.trans (congrArg some (by kernel_rfl))
  f37 := Tryz.func275.trans (congrArg some (by kernel_rfl))
  f38 := Tryz.func276.trans (congrArg some (by kernel_rfl))
  f39 := Tryz.func277.trans (congrArg some (by kernel_rfl))
  f40 := Tryz.func278.trans (congrArg some (by kernel_rfl))
  t0 := Tryz.underlying0
  a0 := Tryz.isAgg0
  z0 := Tryz.sizeOf0
  v0 := Tryz.zeroValue0
  i0 := by kernel_rfl
  t2 := Tryz.underlying2
  a2 := Tryz.isAgg2
  z2 := Tryz.sizeOf2
  v2 := Tryz.zeroValue2
  i2 := by kernel_rfl
  t3 := Tryz.underlying3
  a3 := Tryz.isAgg3
  z3 := Tryz.sizeOf3
  v3 := Tryz.zeroValue3
  i3 := by kernel_rfl
  t4 := Tryz.underlying4
  a4 := Tryz.isAgg4
  z4 := Tryz.sizeOf4
  v4 := Tryz.zeroValue4
  i4 := by kernel_rfl
  t5 := Tryz.underlying5
  a5 := Tryz.isAgg5
  z5 := Tryz.sizeOf5
  v5 := Tryz.zeroValue5
  i5 := by kernel_rfl
  t9 := Tryz.underlying9
  a9 := Tryz.isAgg9
  z9 := Tryz.sizeOf9
  v9 := Tryz.zeroValue9
  i9 := by kernel_rfl
  t20 := Tryz.underlying20
  a20 := Tryz.isAgg20
  z20 := Tryz.sizeOf20
  v20 := Tryz.zeroValue20
  i20 := by kernel_rfl
  t21 := Tryz.underlying21
  a21 := Tryz.isAgg21
  z21 := Tryz.sizeOf21
  v21 := Tryz.zeroValue21
  i21 := by kernel_rfl
  t22 := Tryz.underlying37
  a22 := Tryz.isAgg37
  z22 := Tryz.sizeOf37
  v22 := Tryz.zeroValue37
  i22 := by kernel_rfl
  t24 := Tryz.underlying373
  a24 := Tryz.isAgg373
  z24 := Tryz.sizeOf373
  v24 := Tryz.zeroValue373
  i24 := by kernel_rfl
  t25 := Tryz.underlying374
  a25 := Tryz.isAgg374
  z25 := Tryz.sizeOf374
  v25 := Tryz.zeroValue374
  i25 := by kernel_rfl
  t34 := Tryz.underlying379
  a34 := Tryz.isAgg379
  z34 := Tryz.sizeOf379
  v34 := Tryz.zeroValue379
  i34 := by kernel_rfl
  c34 := by kernel_rfl
  t36 := Tryz.underlying42
  a36 := Tryz.isAgg42
  z36 := Tryz.sizeOf42
  v36 := Tryz.zeroValue42
  i36 := by kernel_rfl
  t37 := Tryz.underlying22
  a37 := Tryz.isAgg22
  z37 := Tryz.sizeOf22
  v37 := Tryz.zeroValue22
  i37 := by kernel_rfl
  t39 := Tryz.underlying381
  a39 := Tryz.isAgg381
  z39 := Tryz.sizeOf381
  v39 := Tryz.zeroValue381
  i39 := by kernel_rfl
  t44 := Tryz.underlying385
  a44 := Tryz.isAgg385
  z44 := Tryz.sizeOf385
  v44 := Tryz.zeroValue385
  i44 := by kernel_rfl
  t47 := Tryz.underlying363
  a47 := Tryz.isAgg363
  z47 := Tryz.sizeOf363
  v47 := Tryz.zeroValue363
  i47 := by kernel_rfl
  t48 := Tryz.underlying388
  a48 := Tryz.isAgg388
  z48 := Tryz.sizeOf388
  v48 := Tryz.zeroValue388
  i48 := by kernel_rfl
  t50 := Tryz.underlying390
  a50 := Tryz.isAgg390
  z50 := Tryz.sizeOf390
  v50 := Tryz.zeroValue390
  i50 := by kernel_rfl
  t52 := Tryz.underlying392
  a52 := Tryz.isAgg392
  z52 := Tryz.sizeOf392
  v52 := Tryz.zeroValue392
  i52 := by kernel_rfl
  t55 := Tryz.underlying395
  a55 := Tryz.isAgg395
  z55 := Tryz.sizeOf395
  v55 := Tryz.zeroValue395
  i55 := by kernel_rfl
  t59 := Tryz.underlying398
  a59 := Tryz.isAgg398
  z59 := Tryz.sizeOf398
  v59 := Tryz.zeroValue398
  i59 := by kernel_rfl
  t60 := Tryz.underlying399
  a60 := Tryz.isAgg399
  z60 := Tryz.sizeOf399
  v60 := Tryz.zeroValue399
  i60 := by kernel_rfl
  t61 := Tryz.underlying400
  a61 := Tryz.isAgg400
  z61 := Tryz.sizeOf400
  t65 := Tryz.underlying403
  a65 := Tryz.isAgg403
  z65 := Tryz.sizeOf403
  v65 := Tryz.zeroValue403
  i65 := by kernel_rfl
  t66 := Tryz.underlying404
  a66 := Tryz.isAgg404
  z66 := Tryz.sizeOf404
  v66 := Tryz.zeroValue404
  i66 := by kernel_rfl
  t67 := Tryz.underlying405
  a67 := Tryz.isAgg405
  z67 := Tryz.sizeOf405
  v67 := Tryz.zeroValue405
  i67 := by kernel_rfl
  g0 := by kernel_rfl
  m0 := by kernel_rfl
  g1 := by kernel_rfl
  m1 := by kernel_rfl
  g2 := by kernel_rfl
  m2 := by kernel_rfl
  g3 := by kernel_rfl
  m3 := by kernel_rfl
  g4 := by kernel_rfl
  m4 := by kernel_rfl }
open Go.RowKit in
theorem Tryz.strconv_ParseUint_10_at64_ok (s : ByteArray) (hmax : s.size ≤ 9223372036854775806) (u : Nat) (h : Lib.parseUintB 64 s.data.toList = .ok u) (w : World) :
    Calls Tryz.prog 252 #[.string s, .int .i64 10, .int .i64 64] w fun e w' => e = .returned (.tuple #[.int .u64 u, .nilIface]) ∧ (w' = w ∨ w' = Lib.bytesWorld w 5 s) := Any.strconv_ParseUint_10_at64_ok Tryz.laysPu14 s hmax u h w
open Go.RowKit in
theorem Tryz.strconv_ParseUint_10_at64_range (s : ByteArray) (hlim : s.size ≤ 281474976710656) (h : Lib.parseUintB 64 s.data.toList = .range) (ev : Value) (w : World) (hv : w.cell? ⟨5, 0, none⟩ = some ev) (hev : ev = .nilIface ∨ ∃ te pe, ev = .iface te pe) :
    Calls Tryz.prog 252 #[.string s, .int .i64 10, .int .i64 64] w fun e w' => ∃ N, e = .returned (.tuple #[.int .u64 18446744073709551615, .iface 381 (.pointer (some ⟨N, 0, none⟩))]) ∧ w.heap.size ≤ N ∧ w'.heap[N]? = some (.cells #[.string ⟨#[80, 97, 114, 115, 101, 85, 105, 110, 116]⟩, .string s, ev] 385 (0, 0)) ∧ Below w.heap.size w w' := Any.strconv_ParseUint_10_at64_range Tryz.laysPu14 s hlim h ev w hv hev
end Go.Proofs.YtgbcchiheddfpaaGreatDoor
namespace Go.Proofs.YtgbcchiheddfpaaGreatDoor
open Go.ChangeShapes Go.WideShapes Go.ChangeAt Go.RowKit

theorem arr_litEn (t : Array Value) (h : t.size = 90) : t = ((List.range 90).map fun n => t.getD n undef).toArray := by
  apply Array.ext'
  apply List.ext_getElem?
  intro i
  by_cases hi : i < 90
  · have h' : i < t.size := by omega
    simp [hi, h', Array.getD]
  · have h' : ¬ i < t.size := by omega
    simp [hi, h']
set_option maxRecDepth 100000 in
theorem lit_allEn (u : Nat → Value) : ((List.range 90).map u).toArray = #[u 0, u 1, u 2, u 3, u 4, u 5, u 6, u 7, u 8, u 9, u 10, u 11, u 12, u 13, u 14, u 15, u 16, u 17, u 18, u 19, u 20, u 21, u 22, u 23, u 24, u 25, u 26, u 27, u 28, u 29, u 30, u 31, u 32, u 33, u 34, u 35, u 36, u 37, u 38, u 39, u 40, u 41, u 42, u 43, u 44, u 45, u 46, u 47, u 48, u 49, u 50, u 51, u 52, u 53, u 54, u 55, u 56, u 57, u 58, u 59, u 60, u 61, u 62, u 63, u 64, u 65, u 66, u 67, u 68, u 69, u 70, u 71, u 72, u 73, u 74, u 75, u 76, u 77, u 78, u 79, u 80, u 81, u 82, u 83, u 84, u 85, u 86, u 87, u 88, u 89] := rfl
noncomputable def loopsEn (n : Nat) : Code := ((Tryz.f121.body.map loopsOf).getD []).getD n .skip
structure EnFr (M R T : Nat) (a : Option Addr) (n e k : Nat) (b : Option Addr) (m f j : Nat) (c : Act) : Prop where
  df : c.defers = []
  sz : c.tmps.size = 90
  s0 : c.tmps.getD 0 undef = .pointer (some ⟨M, 0, none⟩)
  s2 : c.tmps.getD 2 undef = .pointer (some ⟨R, 0, none⟩)
  s8 : c.tmps.getD 8 undef = .pointer (some ⟨T, 0, none⟩)
  s15 : c.tmps.getD 15 undef = .slice a n e
  s16 : c.tmps.getD 16 undef = .int .i64 n
  s17 : c.tmps.getD 17 undef = .int .i64 k
  s61 : c.tmps.getD 61 undef = .slice b m f
  s62 : c.tmps.getD 62 undef = .int .i64 m
  s63 : c.tmps.getD 63 undef = .int .i64 j
set_option maxRecDepth 100000 in
theorem EnFr.lit {M R T : Nat} {a : Option Addr} {n e k : Nat} {b : Option Addr} {m f j : Nat} {c : Act} (h : EnFr M R T a n e k b m f j c) : ∃ u : Nat → Value, c = ⟨#[.pointer (some ⟨M, 0, none⟩), u 1, .pointer (some ⟨R, 0, none⟩), u 3, u 4, u 5, u 6, u 7, .pointer (some ⟨T, 0, none⟩), u 9, u 10, u 11, u 12, u 13, u 14, .slice a n e, .int .i64 n, .int .i64 k, u 18, u 19, u 20, u 21, u 22, u 23, u 24, u 25, u 26, u 27, u 28, u 29, u 30, u 31, u 32, u 33, u 34, u 35, u 36, u 37, u 38, u 39, u 40, u 41, u 42, u 43, u 44, u 45, u 46, u 47, u 48, u 49, u 50, u 51, u 52, u 53, u 54, u 55, u 56, u 57, u 58, u 59, u 60, .slice b m f, .int .i64 m, .int .i64 j, u 64, u 65, u 66, u 67, u 68, u 69, u 70, u 71, u 72, u 73, u 74, u 75, u 76, u 77, u 78, u 79, u 80, u 81, u 82, u 83, u 84, u 85, u 86, u 87, u 88, u 89], []⟩ := by
  obtain ⟨hd, hs, h0, h2, h8, h15, h16, h17, h61, h62, h63⟩ := h
  refine ⟨fun n => c.tmps.getD n undef, ?_⟩
  obtain ⟨t, d⟩ := c
  simp only at hd hs h0 h2 h8 h15 h16 h17 h61 h62 h63 ⊢
  subst hd
  congr 1
  refine (arr_litEn t hs).trans ?_
  rw [lit_allEn]
  simp only [h0, h2, h8, h15, h16, h17, h61, h62, h63]
structure EnO (M R : Nat) (a : Option Addr) (n e k : Nat) (c : Act) : Prop where
  df : c.defers = []
  sz : c.tmps.size = 90
  s0 : c.tmps.getD 0 undef = .pointer (some ⟨M, 0, none⟩)
  s2 : c.tmps.getD 2 undef = .pointer (some ⟨R, 0, none⟩)
  s15 : c.tmps.getD 15 undef = .slice a n e
  s16 : c.tmps.getD 16 undef = .int .i64 n
  s17 : c.tmps.getD 17 undef = .int .i64 k
set_option maxRecDepth 100000 in
theorem EnO.lit {M R : Nat} {a : Option Addr} {n e k : Nat} {c : Act} (h : EnO M R a n e k c) : ∃ u : Nat → Value, c = ⟨#[.pointer (some ⟨M, 0, none⟩), u 1, .pointer (some ⟨R, 0, none⟩), u 3, u 4, u 5, u 6, u 7, u 8, u 9, u 10, u 11, u 12, u 13, u 14, .slice a n e, .int .i64 n, .int .i64 k, u 18, u 19, u 20, u 21, u 22, u 23, u 24, u 25, u 26, u 27, u 28, u 29, u 30, u 31, u 32, u 33, u 34, u 35, u 36, u 37, u 38, u 39, u 40, u 41, u 42, u 43, u 44, u 45, u 46, u 47, u 48, u 49, u 50, u 51, u 52, u 53, u 54, u 55, u 56, u 57, u 58, u 59, u 60, u 61, u 62, u 63, u 64, u 65, u 66, u 67, u 68, u 69, u 70, u 71, u 72, u 73, u 74, u 75, u 76, u 77, u 78, u 79, u 80, u 81, u 82, u 83, u 84, u 85, u 86, u 87, u 88, u 89], []⟩ := by
  obtain ⟨hd, hs, h0, h2, h15, h16, h17⟩ := h
  refine ⟨fun n => c.tmps.getD n undef, ?_⟩
  obtain ⟨t, d⟩ := c
  simp only at hd hs h0 h2 h15 h16 h17 ⊢
  subst hd
  congr 1
  refine (arr_litEn t hs).trans ?_
  rw [lit_allEn]
  simp only [h0, h2, h15, h16, h17]
end Go.Proofs.YtgbcchiheddfpaaGreatDoor
namespace Go.Proofs.YtgbcchiheddfpaaGreatDoor
open Go.ChangeShapes Go.WideShapes Go.ChangeAt Go.RowKit Go.Shelf

structure SchAt (A : Nat) (W : World) (ss : List (SRec × Value)) (es : List (SCho × Value)) (sv ev : Value) (rt : Nat) : Prop where
  blk : W.heap[A]? = some (.cells #[sv, ev, .int .i64 rt] 30 (0, 0))
  rows : SchRows (A + 1) W ss es sv ev
theorem SchAt.below {A rt : Nat} {W W' : World} {ss : List (SRec × Value)} {es : List (SCho × Value)} {sv ev : Value} (h : SchAt A W ss es sv ev rt) (hb : Below W.heap.size W W') : SchAt A W' ss es sv ev rt :=
  ⟨blk_below h.blk hb (blk_lt h.blk), h.rows.below hb⟩
theorem mem_snc {α : Type} {l : List α} {a p : α} (h : p ∈ l ++ [a]) : p ∈ l ∨ p = a := by
  rcases List.mem_append.1 h with h | h
  · exact .inl h
  · exact .inr (List.mem_singleton.1 h)
theorem SchAt.enum {A rt : Nat} {W W4 : World} {ss : List (SRec × Value)} {es : List (SCho × Value)} {sv ev : Value} (h : SchAt A W ss es sv ev rt) {q : SCho × Value} (hq : W.ownsRow (A + 1) 9 1 q.2 q.1.names.length (strsCells q.1.names))
    (hg : W.grownBy W4 ev.ownBlock) {ev' : Value} (hown : W4.ownsRow (A + 1) 74 2 ev' (es.length + 1) (schosCells es ++ schoCells q)) : SchAt A (W4.setCell ⟨A, 1, none⟩ ev') ss (es ++ [q]) sv ev' rt := by
  have hA : ∀ k, ev.ownBlock = some k → A ≠ k := fun k hk => by have := (ownsRow_lt h.rows.enums k hk).1; omega
  have hb4 : W4.heap[A]? = some (.cells #[sv, ev, .int .i64 rt] 30 (0, 0)) := (hg.block A (blk_lt h.blk) (fun e => hA A e.symm rfl)).trans h.blk
  have key : ∀ {e : TypeId} {s : Nat} {v : Value} {n : Nat} {xs : List Value}, W.ownsRow (A + 1) e s v n xs → e ≠ 74 → (W4.setCell ⟨A, 1, none⟩ ev').ownsRow (A + 1) e s v n xs := fun ho hne =>
    ownsRow_setCell_below (rws_other hg ho (rws_ne ho h.rows.enums hne)) (Nat.lt_succ_self A) _
  refine ⟨(blk_set hb4 1 ev').trans rfl, key h.rows.structs (by decide), ?_, fun r hr => key (h.rows.fields r hr) (by decide), fun r hr => ?_⟩
  · rw [schosCells_snoc, List.length_append]
    exact ownsRow_setCell_below hown (Nat.lt_succ_self A) _
  · rcases mem_snc hr with hr | rfl
    · exact key (h.rows.names r hr) (by decide)
    · exact key hq (by decide)
theorem SchAt.strct {A rt : Nat} {W W4 : World} {ss : List (SRec × Value)} {es : List (SCho × Value)} {sv ev : Value} (h : SchAt A W ss es sv ev rt) {q : SRec × Value} (hq : W.ownsRow (A + 1) 64 5 q.2 q.1.fields.length (sfldsCells q.1.fields))
    (hg : W.grownBy W4 sv.ownBlock) {sv' : Value} (hown : W4.ownsRow (A + 1) 67 2 sv' (ss.length + 1) (srecsCells ss ++ srecCells q)) : SchAt A (W4.setCell ⟨A, 0, none⟩ sv') (ss ++ [q]) es sv' ev rt := by
  have hA : ∀ k, sv.ownBlock = some k → A ≠ k := fun k hk => by have := (ownsRow_lt h.rows.structs k hk).1; omega
  have hb4 : W4.heap[A]? = some (.cells #[sv, ev, .int .i64 rt] 30 (0, 0)) := (hg.block A (blk_lt h.blk) (fun e => hA A e.symm rfl)).trans h.blk
  have key : ∀ {e : TypeId} {s : Nat} {v : Value} {n : Nat} {xs : List Value}, W.ownsRow (A + 1) e s v n xs → e ≠ 67 → (W4.setCell ⟨A, 0, none⟩ sv').ownsRow (A + 1) e s v n xs := fun ho hne =>
    ownsRow_setCell_below (rws_other hg ho (rws_ne ho h.rows.structs hne)) (Nat.lt_succ_self A) _
  refine ⟨(blk_set hb4 0 sv').trans rfl, ?_, key h.rows.enums (by decide), fun r hr => ?_, fun r hr => key (h.rows.names r hr) (by decide)⟩
  · rw [srecsCells_snoc, List.length_append]
    exact ownsRow_setCell_below hown (Nat.lt_succ_self A) _
  · rcases mem_snc hr with hr | rfl
    · exact key (h.rows.fields r hr) (by decide)
    · exact key hq (by decide)
structure MKeeps (w : World) (b : Nat) (x0 x1 : Value) (rt : Nat) (tree : Bool) (W : World) : Prop where
  hb : b = w.heap.size
  box : W.heap[b]? = some (.cells #[x0, x1, .int .u8 rt, .bool tree] 25 (0, 0))
  res : W.heap[b + 1]? = some (.cells #[.slice none 0 0, .slice none 0 0, .int .i64 0] 30 (0, 0))
  bel : Below b w W
theorem MKeeps.below {w W W' : World} {x0 x1 : Value} {b rt B : Nat} {tree : Bool} (h : MKeeps w b x0 x1 rt tree W) (hb : Below B W W') (hB : b + 2 ≤ B) : MKeeps w b x0 x1 rt tree W' :=
  ⟨h.hb, blk_below h.box hb (by omega), blk_below h.res hb (by omega), h.bel.trans (hb.mono (by omega))⟩
theorem bel_app {A : Nat} {W W2 W4 : World} {row : Option Nat} (h2 : Below W.heap.size W W2) (hA : A < W.heap.size) (hg : W2.grownBy W4 row) (hr : ∀ k, row = some k → A ≤ k) (i : Nat) (v : Value) : Below A W (W4.setCell ⟨A, i, none⟩ v) :=
  ((h2.mono (Nat.le_of_lt hA)).grown hg (by have := h2.size; omega) hr).setCell (p := ⟨A, i, none⟩) (Nat.le_refl _) v
set_option maxRecDepth 100000 in
set_option maxHeartbeats 4000000 in
theorem enums_wp {Q : Exit → Act → World → Prop} {c : Act} {w w0 : World} {p : Plan} {a0 a1 : Option Addr} {n0 c0 n1 c1 b rt : Nat} (hp : IsPlan w p a0 n0 c0 a1 n1 c1) (h8 : n0 ≤ 8) (hc : FrA b 0 c)
    (hk : MKeeps w b (.slice a0 n0 c0) (.slice a1 n1 c1) p.root p.tree w0) (hs : SchAt (b + 2) w0 [] [] (.slice none 0 0) (.slice none 0 0) rt)
    (hQ : ∀ c' w' es ev, FrA b n0 c' → MKeeps w b (.slice a0 n0 c0) (.slice a1 n1 c1) p.root p.tree w' → SchAt (b + 2) w' [] es (.slice none 0 0) ev rt → es.map Prod.fst = chosP p n0 → Q (.exit 0) c' w') :
    Code.wp Tryz.prog (Code.loop (madeLoop 0)) Q c w0 := by
  refine wp_loop (fun c' w' => ∃ (i : Nat) (es : List (SCho × Value)) (ev : Value), i ≤ n0 ∧ FrA b i c' ∧ MKeeps w b (.slice a0 n0 c0) (.slice a1 n1 c1) p.root p.tree w' ∧ SchAt (b + 2) w' [] es (.slice none 0 0) ev rt ∧ es.map Prod.fst = chosP p i)
    (fun c' _ => n0 - (intOf (c'.tmps.getD 5 undef)).toNat) ⟨0, [], _, Nat.zero_le _, hc, hk, hs, rfl⟩ ?_
  clear hc hk hs
  rintro c wr ⟨i, es, ev, hi, hc, hk, hs, hes⟩
  have HP := Lib.hid hp
  have HQ := Lib.hid hQ
  have HK := Lib.hid hk
  have HS := Lib.hid hs
  have HES := Lib.hid hes
  have hesl : es.length = i := by have := congrArg List.length hes; rw [chosP_length] at this; simpa using this
  obtain ⟨u, rfl⟩ := fra_lit hc
  have y0 := (blk_cell hk.box 0).trans rfl
  have hbl : b + 2 < wr.heap.size := blk_lt hs.blk
  clear hc hQ hk hs hp hes
  conv => arg 2; whnf
  by_cases hlt : i < n0
  · obtain ⟨hz2, B, off, rfl, hB0, hz⟩ := HP.out.e_at i hlt
    have hB : B < b := by rw [HK.out.hb]; exact hB0
    have HNS : Hid ((choP p i).names = valsL (p.enums.getD i 0 % 32 + 1)) := Lib.hid rfl
    generalize p.enums.getD i 0 = z at *
    have HESL := Lib.hid hesl
    have hesl2 : es.length ≤ 8 := by omega
    clear hesl
    have hzr := (HK.out.bel.cell (p := ⟨B, off + i, none⟩) hB).trans hz
    have kc := one_str
    have hsz : ¬ 9223372036854775807 < 1 + (strOfNums [97 + (i : Int)]).size := by rw [strOfNums_size]; simp
    obtain ⟨hb2, hB1, hB2⟩ := two_start wr #[.int .u8 (97 + (i : Int))] #[.string (enumName i), .slice none 0 0] 5 74
    have hzr2 := (hb2.cell (p := ⟨B, off + i, none⟩) (by show B < _; omega)).trans hzr
    have HB2 := Lib.hid hb2
    have HBB := Lib.hid hB2
    have HZR2 := Lib.hid hzr2
    have HZ2 := Lib.hid hz2
    have HBX := Lib.hid (blk_below HK.out.box hb2 (by omega))
    clear hz hzr hb2 hB1 hB2 hzr2 hB0
    go_wp2_with fail
    refine vals_wp (C := wr.heap.size + 1) (z := z) (nm := .string (enumName i)) ⟨rfl, rfl, rfl, rfl, rfl, rfl, rfl, rfl, rfl⟩ HBX.out (by omega) (by omega) HZR2.out HZ2.out hlt HBB.out ?_
    intro c2 w2 nv hf hbel hC2 hrow2
    obtain ⟨nva, nvc, rfl⟩ := ownsRow_form hrow2
    have hb3 : Below wr.heap.size wr w2 := HB2.out.trans (hbel.mono (by omega))
    have hs2 := HS.out.below hb3
    have HS2 := Lib.hid hs2
    have HK2 := Lib.hid (HK.out.below hb3 (by omega))
    have HROW := Lib.hid hrow2
    obtain ⟨_, z0, z1, z2, f0, f1, f2⟩ := blk3 hs2.blk
    obtain ⟨hCl, d0, d1, _⟩ := blk2 hC2
    obtain ⟨eva, evc, rfl⟩ := ownsRow_form hs2.rows.enums
    obtain ⟨i0, hi0, hzz0, hzz1, hzz2⟩ := info_parts scho_info
    have I1 := Lib.hid hi0
    have I2 := Lib.hid hzz0
    have I3 := Lib.hid hzz1
    have I4 := Lib.hid hzz2
    have hbs : b + 2 < w2.heap.size := blk_lt hs2.blk
    have HBN := Lib.hid (heap_alloc_new w2 (.cells #[.string (enumName i), .slice nva (z % 32 + 1) nvc] 74))
    have HBA := Lib.hid ((Below.refl w2.heap.size w2).alloc (Nat.le_refl _) (.cells #[.string (enumName i), .slice nva (z % 32 + 1) nvc] 74))
    obtain ⟨u2, rfl⟩ := frb_lit hf
    clear hf hbel hC2 hrow2 hb3 hs2 hi0 hzz0 hzz1 hzz2 HS HK y0 kc hsz hz2
    simp only [Exit.inBlock, Exit.then]
    apply_assumption
    go_wp2_with (at_builtin; refine wpList_append_own _ rfl (.tmp 81) (.tmp 83) 28 rfl (b + 2 + 1) 74 i0 _ 2 40 Tryz.underlying28 I1.out I2.out I3.out I4.out rfl (by decide) _ es.length (schosCells es) rfl (row_keep HBA.out HS2.out.rows.enums) _ 1 1 [.string (enumName i), .slice nva (z % 32 + 1) nvc] rfl rfl (World.news_of_block HBN.out) (by intro u hu; simp at hu; rcases hu with rfl | rfl <;> rfl) (by unfold maxLen; omega) (by omega) (by simp; omega) ?_; intro v4 W8 hown4 hg4 hx; clear hx; obtain ⟨a4, m4, rfl⟩ := ownsRow_form hown4; have s5 := SchAt.enum (q := (choP p i, .slice nva (z % 32 + 1) nvc)) (HS2.out.below HBA.out) (by have h := ownsRow_base (row_keep HBA.out HROW.out) (show b + 2 + 1 ≤ wr.heap.size + 1 + 1 by omega); show World.ownsRow _ _ _ _ _ (choP p i).names.length (strsCells (choP p i).names); rw [HNS.out, valsL_length]; exact h) hg4 hown4; have s4 : W8.heap[b + 2]? = some (.cells #[.slice none 0 0, .slice eva es.length evc, .int .i64 rt] 30 (0, 0)) := (hg4.block (b + 2) (by simp; omega) (fun e => by have := (ownsRow_lt HS2.out.rows.enums _ e.symm).1; omega)).trans (HS2.out.below HBA.out).blk; obtain ⟨_, p0, p1, p2, q0, q1, q2⟩ := blk3 s4; have S5 := Lib.hid s5; have S6 := Lib.hid (bel_app HBA.out hbs hg4 (fun k hk => by have := (ownsRow_lt HS2.out.rows.enums k hk).1; omega) 1 (.slice a4 (es.length + 1) m4)); clear s5 s4 hown4 hg4)
    refine ⟨⟨i + 1, _, _, by omega, ⟨rfl, rfl, rfl, rfl, rfl, rfl, rfl⟩, HK2.out.below S6.out (Nat.le_refl _), S5.out, by rw [List.map_append, HES.out, chosP_succ]; rfl⟩, ?_⟩
    show n0 - (intOf (.int .i64 ((i : Int) + 1))).toNat < n0 - (intOf (.int .i64 (i : Int))).toNat
    simp [intOf]; omega
  · obtain rfl : i = n0 := by omega
    clear hlt
    go_wp2
    exact HQ.out _ _ _ _ ⟨rfl, rfl, rfl, rfl, rfl, rfl, rfl⟩ HK.out HS.out HES.out
end Go.Proofs.YtgbcchiheddfpaaGreatDoor
