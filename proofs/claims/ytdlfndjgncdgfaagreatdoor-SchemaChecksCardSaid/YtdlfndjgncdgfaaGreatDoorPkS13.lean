/-
  The hand's Made: the type of a field. Conditions: those that each theorem names.
-/
import Derived.Test.YtdlfndjgncdgfaaGreatDoorPkS12
import Derived.Deep.RegionHeld3
import Derived.StillTailTactics
namespace Go.Proofs.YtdlfndjgncdgfaaGreatDoor
open Go.ChangeShapes Go.WideShapes Go.ChangeAt Go.RowKit Go.Shelf

structure SchAt (A : Nat) (W : World) (ss : List (SRec × Value)) (es : List (SCho × Value)) (sv ev : Value) (rt : Nat) : Prop where
  blk : W.heap[A]? = some (.cells #[sv, ev, .int .i64 rt] 30 (0, 0))
  rows : SchRows (A + 1) W ss es sv ev
theorem SchAt.below {A rt : Nat} {W W' : World} {ss : List (SRec × Value)} {es : List (SCho × Value)} {sv ev : Value} (h : SchAt A W ss es sv ev rt) (hb : Below W.heap.size W W') : SchAt A W' ss es sv ev rt :=
  ⟨blk_below h.blk hb (blk_lt h.blk), h.rows.below hb⟩
theorem mem_snc {α : Type} {l : List α} {a p : α} (h : p ∈ l ++ [a]) : p ∈ l ∨ p = a := by
  rcases List.mem_append.1 h with h | h
  · exact .inl h
  · exact .inr (List.mem_singleton.1 h)
theorem SchAt.enum {A rt : Nat} {W W4 : World} {ss : List (SRec × Value)} {es : List (SCho × Value)} {sv ev : Value} (h : SchAt A W ss es sv ev rt) {q : SCho × Value} (hq : W.ownsRow (A + 1) 9 1 q.2 q.1.names.length (strsCells q.1.names))
    (hg : W.grownBy W4 ev.ownBlock) {ev' : Value} (hown : W4.ownsRow (A + 1) 57 2 ev' (es.length + 1) (schosCells es ++ schoCells q)) : SchAt A (W4.setCell ⟨A, 1, none⟩ ev') ss (es ++ [q]) sv ev' rt := by
  have hA : ∀ k, ev.ownBlock = some k → A ≠ k := fun k hk => by have := (ownsRow_lt h.rows.enums k hk).1; omega
  have hb4 : W4.heap[A]? = some (.cells #[sv, ev, .int .i64 rt] 30 (0, 0)) := (hg.block A (blk_lt h.blk) (fun e => hA A e.symm rfl)).trans h.blk
  have key : ∀ {e : TypeId} {s : Nat} {v : Value} {n : Nat} {xs : List Value}, W.ownsRow (A + 1) e s v n xs → e ≠ 57 → (W4.setCell ⟨A, 1, none⟩ ev').ownsRow (A + 1) e s v n xs := fun ho hne =>
    ownsRow_setCell_below (rws_other hg ho (rws_ne ho h.rows.enums hne)) (Nat.lt_succ_self A) _
  refine ⟨(blk_set hb4 1 ev').trans rfl, key h.rows.structs (by decide), ?_, fun r hr => key (h.rows.fields r hr) (by decide), fun r hr => ?_⟩
  · rw [schosCells_snoc, List.length_append]
    exact ownsRow_setCell_below hown (Nat.lt_succ_self A) _
  · rcases mem_snc hr with hr | rfl
    · exact key (h.rows.names r hr) (by decide)
    · exact key hq (by decide)
theorem SchAt.strct {A rt : Nat} {W W4 : World} {ss : List (SRec × Value)} {es : List (SCho × Value)} {sv ev : Value} (h : SchAt A W ss es sv ev rt) {q : SRec × Value} (hq : W.ownsRow (A + 1) 51 5 q.2 q.1.fields.length (sfldsCells q.1.fields))
    (hg : W.grownBy W4 sv.ownBlock) {sv' : Value} (hown : W4.ownsRow (A + 1) 54 2 sv' (ss.length + 1) (srecsCells ss ++ srecCells q)) : SchAt A (W4.setCell ⟨A, 0, none⟩ sv') (ss ++ [q]) es sv' ev rt := by
  have hA : ∀ k, sv.ownBlock = some k → A ≠ k := fun k hk => by have := (ownsRow_lt h.rows.structs k hk).1; omega
  have hb4 : W4.heap[A]? = some (.cells #[sv, ev, .int .i64 rt] 30 (0, 0)) := (hg.block A (blk_lt h.blk) (fun e => hA A e.symm rfl)).trans h.blk
  have key : ∀ {e : TypeId} {s : Nat} {v : Value} {n : Nat} {xs : List Value}, W.ownsRow (A + 1) e s v n xs → e ≠ 54 → (W4.setCell ⟨A, 0, none⟩ sv').ownsRow (A + 1) e s v n xs := fun ho hne =>
    ownsRow_setCell_below (rws_other hg ho (rws_ne ho h.rows.structs hne)) (Nat.lt_succ_self A) _
  refine ⟨(blk_set hb4 0 sv').trans rfl, ?_, key h.rows.enums (by decide), fun r hr => ?_, fun r hr => key (h.rows.names r hr) (by decide)⟩
  · rw [srecsCells_snoc, List.length_append]
    exact ownsRow_setCell_below hown (Nat.lt_succ_self A) _
  · rcases mem_snc hr with hr | rfl
    · exact key (h.rows.fields r hr) (by decide)
    · exact key hq (by decide)
structure MKeeps (w : World) (b : Nat) (x0 x1 : Value) (rt : Nat) (tree : Bool) (W : World) : Prop where
  hb : b = w.heap.size
  box : W.heap[b]? = some (.cells #[x0, x1, .int .u8 rt, .bool tree] 25 (0, 0))
  res : W.heap[b + 1]? = some (.cells #[.slice none 0 0, .slice none 0 0, .int .i64 0] 30 (0, 0))
  bel : Below b w W
theorem MKeeps.below {w W W' : World} {x0 x1 : Value} {b rt B : Nat} {tree : Bool} (h : MKeeps w b x0 x1 rt tree W) (hb : Below B W W') (hB : b + 2 ≤ B) : MKeeps w b x0 x1 rt tree W' :=
  ⟨h.hb, blk_below h.box hb (by omega), blk_below h.res hb (by omega), h.bel.trans (hb.mono (by omega))⟩
theorem bel_app {A : Nat} {W W2 W4 : World} {row : Option Nat} (h2 : Below W.heap.size W W2) (hA : A < W.heap.size) (hg : W2.grownBy W4 row) (hr : ∀ k, row = some k → A ≤ k) (i : Nat) (v : Value) : Below A W (W4.setCell ⟨A, i, none⟩ v) :=
  ((h2.mono (Nat.le_of_lt hA)).grown hg (by have := h2.size; omega) hr).setCell (p := ⟨A, i, none⟩) (Nat.le_refl _) v
set_option maxRecDepth 100000 in
set_option maxHeartbeats 4000000 in
theorem enums_wp {Q : Exit → Act → World → Prop} {c : Act} {w w0 : World} {p : Plan} {a0 a1 : Option Addr} {n0 c0 n1 c1 b rt : Nat} (hp : IsPlan w p a0 n0 c0 a1 n1 c1) (h8 : n0 ≤ 8) (hc : FrA b 0 c)
    (hk : MKeeps w b (.slice a0 n0 c0) (.slice a1 n1 c1) p.root p.tree w0) (hs : SchAt (b + 2) w0 [] [] (.slice none 0 0) (.slice none 0 0) rt)
    (hQ : ∀ c' w' es ev, FrA b n0 c' → MKeeps w b (.slice a0 n0 c0) (.slice a1 n1 c1) p.root p.tree w' → SchAt (b + 2) w' [] es (.slice none 0 0) ev rt → es.map Prod.fst = chosP p n0 → Q (.exit 0) c' w') :
    Code.wp Tryz.prog (Code.loop (madeLoop 0)) Q c w0 := by
  refine wp_loop (fun c' w' => ∃ (i : Nat) (es : List (SCho × Value)) (ev : Value), i ≤ n0 ∧ FrA b i c' ∧ MKeeps w b (.slice a0 n0 c0) (.slice a1 n1 c1) p.root p.tree w' ∧ SchAt (b + 2) w' [] es (.slice none 0 0) ev rt ∧ es.map Prod.fst = chosP p i)
    (fun c' _ => n0 - (intOf (c'.tmps.getD 5 undef)).toNat) ⟨0, [], _, Nat.zero_le _, hc, hk, hs, rfl⟩ ?_
  clear hc hk hs
  rintro c wr ⟨i, es, ev, hi, hc, hk, hs, hes⟩
  have HP := Lib.hid hp
  have HQ := Lib.hid hQ
  have HK := Lib.hid hk
  have HS := Lib.hid hs
  have HES := Lib.hid hes
  have hesl : es.length = i := by have := congrArg List.length hes; rw [chosP_length] at this; simpa using this
  obtain ⟨u, rfl⟩ := fra_lit hc
  have y0 := (blk_cell hk.box 0).trans rfl
  have hbl : b + 2 < wr.heap.size := blk_lt hs.blk
  clear hc hQ hk hs hp hes
  conv => arg 2; whnf
  by_cases hlt : i < n0
  · obtain ⟨hz2, B, off, rfl, hB0, hz⟩ := HP.out.e_at i hlt
    have hB : B < b := by rw [HK.out.hb]; exact hB0
    have HNS : Hid ((choP p i).names = valsL (p.enums.getD i 0 % 32 + 1)) := Lib.hid rfl
    generalize p.enums.getD i 0 = z at *
    have HESL := Lib.hid hesl
    have hesl2 : es.length ≤ 8 := by omega
    clear hesl
    have hzr := (HK.out.bel.cell (p := ⟨B, off + i, none⟩) hB).trans hz
    have kc := one_str
    have hsz : ¬ 9223372036854775807 < 1 + (strOfNums [97 + (i : Int)]).size := by rw [strOfNums_size]; simp
    obtain ⟨hb2, hB1, hB2⟩ := two_start wr #[.int .u8 (97 + (i : Int))] #[.string (enumName i), .slice none 0 0] 5 57
    have hzr2 := (hb2.cell (p := ⟨B, off + i, none⟩) (by show B < _; omega)).trans hzr
    have HB2 := Lib.hid hb2
    have HBB := Lib.hid hB2
    have HZR2 := Lib.hid hzr2
    have HZ2 := Lib.hid hz2
    have HBX := Lib.hid (blk_below HK.out.box hb2 (by omega))
    clear hz hzr hb2 hB1 hB2 hzr2 hB0
    go_wp2_with fail
    refine vals_wp (C := wr.heap.size + 1) (z := z) (nm := .string (enumName i)) ⟨rfl, rfl, rfl, rfl, rfl, rfl, rfl, rfl, rfl⟩ HBX.out (by omega) (by omega) HZR2.out HZ2.out hlt HBB.out ?_
    intro c2 w2 nv hf hbel hC2 hrow2
    obtain ⟨nva, nvc, rfl⟩ := ownsRow_form hrow2
    have hb3 : Below wr.heap.size wr w2 := HB2.out.trans (hbel.mono (by omega))
    have hs2 := HS.out.below hb3
    have HS2 := Lib.hid hs2
    have HK2 := Lib.hid (HK.out.below hb3 (by omega))
    have HROW := Lib.hid hrow2
    obtain ⟨_, z0, z1, z2, f0, f1, f2⟩ := blk3 hs2.blk
    obtain ⟨hCl, d0, d1, _⟩ := blk2 hC2
    obtain ⟨eva, evc, rfl⟩ := ownsRow_form hs2.rows.enums
    obtain ⟨i0, hi0, hzz0, hzz1, hzz2⟩ := info_parts scho_info
    have I1 := Lib.hid hi0
    have I2 := Lib.hid hzz0
    have I3 := Lib.hid hzz1
    have I4 := Lib.hid hzz2
    have hbs : b + 2 < w2.heap.size := blk_lt hs2.blk
    have HBN := Lib.hid (heap_alloc_new w2 (.cells #[.string (enumName i), .slice nva (z % 32 + 1) nvc] 57))
    have HBA := Lib.hid ((Below.refl w2.heap.size w2).alloc (Nat.le_refl _) (.cells #[.string (enumName i), .slice nva (z % 32 + 1) nvc] 57))
    obtain ⟨u2, rfl⟩ := frb_lit hf
    clear hf hbel hC2 hrow2 hb3 hs2 hi0 hzz0 hzz1 hzz2 HS HK y0 kc hsz hz2
    simp only [Exit.inBlock, Exit.then]
    apply_assumption
    go_wp2_with (at_builtin; refine wpList_append_own _ rfl (.tmp 81) (.tmp 83) 28 rfl (b + 2 + 1) 57 i0 _ 2 40 Tryz.underlying28 I1.out I2.out I3.out I4.out rfl (by decide) _ es.length (schosCells es) rfl (row_keep HBA.out HS2.out.rows.enums) _ 1 1 [.string (enumName i), .slice nva (z % 32 + 1) nvc] rfl rfl (World.news_of_block HBN.out) (by intro u hu; simp at hu; rcases hu with rfl | rfl <;> rfl) (by unfold maxLen; omega) (by omega) (by simp; omega) ?_; intro v4 W8 hown4 hg4 hx; clear hx; obtain ⟨a4, m4, rfl⟩ := ownsRow_form hown4; have s5 := SchAt.enum (q := (choP p i, .slice nva (z % 32 + 1) nvc)) (HS2.out.below HBA.out) (by have h := ownsRow_base (row_keep HBA.out HROW.out) (show b + 2 + 1 ≤ wr.heap.size + 1 + 1 by omega); show World.ownsRow _ _ _ _ _ (choP p i).names.length (strsCells (choP p i).names); rw [HNS.out, valsL_length]; exact h) hg4 hown4; have s4 : W8.heap[b + 2]? = some (.cells #[.slice none 0 0, .slice eva es.length evc, .int .i64 rt] 30 (0, 0)) := (hg4.block (b + 2) (by simp; omega) (fun e => by have := (ownsRow_lt HS2.out.rows.enums _ e.symm).1; omega)).trans (HS2.out.below HBA.out).blk; obtain ⟨_, p0, p1, p2, q0, q1, q2⟩ := blk3 s4; have S5 := Lib.hid s5; have S6 := Lib.hid (bel_app HBA.out hbs hg4 (fun k hk => by have := (ownsRow_lt HS2.out.rows.enums k hk).1; omega) 1 (.slice a4 (es.length + 1) m4)); clear s5 s4 hown4 hg4)
    refine ⟨⟨i + 1, _, _, by omega, ⟨rfl, rfl, rfl, rfl, rfl, rfl, rfl⟩, HK2.out.below S6.out (Nat.le_refl _), S5.out, by rw [List.map_append, HES.out, chosP_succ]; rfl⟩, ?_⟩
    show n0 - (intOf (.int .i64 ((i : Int) + 1))).toNat < n0 - (intOf (.int .i64 (i : Int))).toNat
    simp [intOf]; omega
  · obtain rfl : i = n0 := by omega
    clear hlt
    go_wp2
    exact HQ.out _ _ _ _ ⟨rfl, rfl, rfl, rfl, rfl, rfl, rfl⟩ HK.out HS.out HES.out
end Go.Proofs.YtdlfndjgncdgfaaGreatDoor
namespace Go.Proofs.YtdlfndjgncdgfaaGreatDoor
open Go.ChangeShapes Go.WideShapes Go.ChangeAt Go.RowKit Go.Shelf

structure PFAt (w : World) (a : Option Addr) (k : Nat) (f : PF) (B off : Nat) : Prop where
  ha : a = some ⟨B, off, none⟩
  hB : B < w.heap.size
  x0 : w.cell? ⟨B, off + k * 5, none⟩ = some (.int .u8 (f.kind : Nat))
  x1 : w.cell? ⟨B, off + k * 5 + 1, none⟩ = some (.int .u8 (f.lists : Nat))
  x2 : w.cell? ⟨B, off + k * 5 + 2, none⟩ = some (.int .u8 (f.ref : Nat))
  x3 : w.cell? ⟨B, off + k * 5 + 3, none⟩ = some (.int .u8 (f.name : Nat))
  x4 : w.cell? ⟨B, off + k * 5 + 4, none⟩ = some (.int .u64 (f.dflt : Nat))
  l0 : f.kind ≤ 255
  l1 : f.lists ≤ 255
  l2 : f.ref ≤ 255
  l3 : f.name ≤ 255
  l4 : (f.dflt : Int) ≤ 18446744073709551615
theorem u8_in (n : Int) (h0 : 0 ≤ n) (h1 : n ≤ 255) : IntKind.u8.wrap n = n := by simp only [IntKind.wrap, IntKind.bits, IntKind.signed]; simp; omega
def MTyAt (W : World) (T kd rf ls : Nat) : Prop := W.heap[T]? = some (.cells #[.int .u8 kd, .int .i64 rf, .int .i64 ls] 49 (0, 0))
def findRegion (n : Nat) : Code → Option Code
  | .loop c => findRegion n c
  | .seq a b => match findRegion n a with
    | some c => some c
    | none => findRegion n b
  | .block _ c => findRegion n c
  | .scope c => findRegion n c
  | .cond _ a b => match findRegion n a with
    | some c => some c
    | none => findRegion n b
  | .region m ops d => if m = n then some (.region m ops d) else none
  | _ => none
def isRegion (n : Nat) : Code → Bool
  | .region m _ _ => m == n
  | _ => false
def afterRegion (n : Nat) : Code → Option Code
  | .loop c => afterRegion n c
  | .seq a b => if isRegion n a then some b else match afterRegion n a with
    | some c => some c
    | none => afterRegion n b
  | .block _ c => afterRegion n c
  | .scope c => afterRegion n c
  | .cond _ a b => match afterRegion n a with
    | some c => some c
    | none => afterRegion n b
  | _ => none
noncomputable def made34 : Code := (Tryz.f7.body.bind (findRegion 34)).getD .skip
noncomputable def made35 : Code := (Tryz.f7.body.bind (afterRegion 34)).getD .skip
theorem blk5 {w : World} {g : Nat} {x0 x1 x2 x3 x4 : Value} {t : TypeId} (h : w.heap[g]? = some (.cells #[x0, x1, x2, x3, x4] t (0, 0))) :
    g < w.heap.size ∧ w.cell? ⟨g, 0, none⟩ = some x0 ∧ w.cell? ⟨g, 1, none⟩ = some x1 ∧ w.cell? ⟨g, 2, none⟩ = some x2 ∧ w.cell? ⟨g, 3, none⟩ = some x3 ∧ w.cell? ⟨g, 4, none⟩ = some x4 ∧
      w.frozen? ⟨g, 0, none⟩ = false ∧ w.frozen? ⟨g, 1, none⟩ = false ∧ w.frozen? ⟨g, 2, none⟩ = false ∧ w.frozen? ⟨g, 3, none⟩ = false ∧ w.frozen? ⟨g, 4, none⟩ = false :=
  ⟨blk_lt h, (blk_cell h 0).trans rfl, (blk_cell h 1).trans rfl, (blk_cell h 2).trans rfl, (blk_cell h 3).trans rfl, (blk_cell h 4).trans rfl, blk_frozen h 0, blk_frozen h 1, blk_frozen h 2, blk_frozen h 3, blk_frozen h 4⟩
theorem blk_set5 {w : World} {g : Nat} {a b c d e : Value} {t : TypeId} (h : w.heap[g]? = some (.cells #[a, b, c, d, e] t (0, 0))) (x0 x1 x2 x3 x4 : Value) :
    (((((w.setCell ⟨g, 0, none⟩ x0).setCell ⟨g, 1, none⟩ x1).setCell ⟨g, 2, none⟩ x2).setCell ⟨g, 3, none⟩ x3).setCell ⟨g, 4, none⟩ x4).heap[g]? = some (.cells #[x0, x1, x2, x3, x4] t (0, 0)) :=
  (blk_set (blk_set (blk_set (blk_set (blk_set h 0 x0) 1 x1) 2 x2) 3 x3) 4 x4).trans rfl
theorem gfact {W W3 : World} {cs : Array Value} {t : TypeId} (hb : Below (W.alloc (.cells cs t)).heap.size (W.alloc (.cells cs t)) W3) : W3.heap[W.heap.size]? = some (.cells cs t (0, 0)) := (hb.block _ (by simp)).trans (heap_alloc_new W _)
theorem gfact_drew {W W3 : World} {cs : Array Value} {t : TypeId} (hb : Below (W.alloc (.cells cs t)).drew.heap.size (W.alloc (.cells cs t)).drew W3) : W3.heap[W.heap.size]? = some (.cells cs t (0, 0)) := (hb.block _ (by show _ < (W.alloc _).heap.size; simp)).trans (heap_alloc_new W _)
theorem bfact {W W3 : World} {o : Obj} (hb : Below (W.alloc o).heap.size (W.alloc o) W3) : Below W.heap.size W W3 := ((Below.refl _ W).alloc (Nat.le_refl _) _).trans (hb.mono (by simp))
theorem bfact_drew {W W3 : World} (hb : Below W.drew.heap.size W.drew W3) : Below W.heap.size W W3 := (Below.refl _ W).drew.trans hb
theorem bfact_alloc_drew {W W3 : World} {o : Obj} (hb : Below (W.alloc o).drew.heap.size (W.alloc o).drew W3) : Below W.heap.size W W3 := ((Below.refl _ W).alloc (Nat.le_refl _) _).drew.trans (hb.mono (by show _ ≤ (W.alloc _).heap.size; simp))
theorem keep5 {w : World} {g : Nat} {p : Addr} {v x0 x1 x2 x3 x4 : Value} (h : w.cell? p = some v) (hp : p.block ≠ g) :
    (((((w.setCell ⟨g, 0, none⟩ x0).setCell ⟨g, 1, none⟩ x1).setCell ⟨g, 2, none⟩ x2).setCell ⟨g, 3, none⟩ x3).setCell ⟨g, 4, none⟩ x4).cell? p = some v := by
  have e : ∀ (w : World) (i : Nat) (x : Value), (w.setCell ⟨g, i, none⟩ x).cell? p = w.cell? p := fun w i x => World.cell?_of_block (Below.heap_setCell _ _ _ _ hp)
  rw [e, e, e, e, e, h]
def FldAt (W : World) (G : Nat) (f : SFld) : Prop := W.heap[G]? = some (.cells #[.string f.name, .int .u8 f.kind, .int .i64 f.ref, .int .i64 f.lists, .int .u64 f.dflt] 51 (0, 0))
set_option maxRecDepth 100000 in
set_option maxHeartbeats 4000000 in
theorem fld_wp {K : Act → World → Prop} {Q : Exit → Act → World → Prop} {c : Act} {w W : World} {f : PF} {a : Option Addr} {b i n c0 R k T B off kd rf ls : Nat} (hc : FrE b i a n c0 R k T c) (hf : PFAt w a k f B off) (hbw : Below w.heap.size w W) (hkn : k < n) (hn : n ≤ 16) (ht : MTyAt W T kd rf ls)
    (hK : ∀ c' w' G, FrF b i a n c0 R k T G c' → W.heap.size ≤ G → Below W.heap.size W w' → FldAt w' G ⟨labelOf f.name k, kd, rf, ls, 0⟩ → K c' w') :
    Code.wp Tryz.prog made34 (Exit.then K Q) c W := by
  obtain ⟨u, rfl⟩ := fre_lit hc
  obtain ⟨rfl, hB, x0, x1, x2, x3, x4, l0, l1, l2, l3, l4⟩ := hf
  have HK := Lib.hid hK
  have HL := Lib.hid (hlabel_any f.name k)
  have y3 := (hbw.cell (p := ⟨B, off + k * 5 + 3, none⟩) hB).trans x3
  have hBW : B < W.heap.size := Nat.lt_of_lt_of_le hB hbw.size
  have hTW : T < W.heap.size := blk_lt ht
  obtain ⟨_, t0, t1, t2, _⟩ := blk3 ht
  have hki : (k : Int) < n := by omega
  have hk16 : k < 16 := by omega
  clear hc hK x0 x1 x2 x3 x4 l0 l1 l2 l4 hbw hB ht
  conv => arg 2; whnf
  have hBne : B ≠ W.heap.size := by omega
  have hTne : T ≠ W.heap.size := by omega
  have HCC := Lib.hid (show ∀ W3, Below W.heap.size W W3 → W3.cell? ⟨B, off + k * 5 + 3, none⟩ = some (.int .u8 (f.name : Nat)) ∧ W3.cell? ⟨T, 0, none⟩ = some (.int .u8 kd) ∧ W3.cell? ⟨T, 1, none⟩ = some (.int .i64 rf) ∧ W3.cell? ⟨T, 2, none⟩ = some (.int .i64 ls) from fun W3 hb3 => ⟨(hb3.cell (p := ⟨B, off + k * 5 + 3, none⟩) hBW).trans y3, (hb3.cell (p := ⟨T, 0, none⟩) hTW).trans t0, (hb3.cell (p := ⟨T, 1, none⟩) hTW).trans t1, (hb3.cell (p := ⟨T, 2, none⟩) hTW).trans t2⟩)
  go_region_held3 (fun w' => w'.cell? ⟨B, off + k * 5 + 3, none⟩ = some (.int .u8 (f.name : Nat)) ∧ w'.cell? ⟨T, 0, none⟩ = some (.int .u8 kd) ∧ w'.cell? ⟨T, 1, none⟩ = some (.int .i64 rf) ∧ w'.cell? ⟨T, 2, none⟩ = some (.int .i64 ls)) (first | assumption | (with_reducible exact ⟨keep5 k0 hBne, keep5 k1 hTne, keep5 k2 hTne, keep5 k3 hTne⟩) | go_keep)
    (first | (go_at_call 16; (with_reducible refine (HL.out W l3 hk16).mono ?_); rintro e W3 ⟨rfl, hb3⟩; have hbW : Below W.heap.size W W3 := hb3; obtain ⟨k0, k1, k2, k3⟩ := HCC.out W3 hbW) | (go_at_call 16; (with_reducible refine (HL.out W.drew l3 hk16).mono ?_); rintro e W3 ⟨rfl, hb3⟩; have hbW : Below W.heap.size W W3 := bfact_drew hb3; obtain ⟨k0, k1, k2, k3⟩ := HCC.out W3 hbW) | (go_at_call 16; (with_reducible refine (HL.out (W.alloc (.cells #[.string ⟨#[]⟩, .int .u8 0, .int .i64 0, .int .i64 0, .int .u64 0] 51)) l3 hk16).mono ?_); rintro e W3 ⟨rfl, hb3⟩; have hbW : Below W.heap.size W W3 := bfact hb3; obtain ⟨k0, k1, k2, k3⟩ := HCC.out W3 hbW; have hGb : W3.heap[W.heap.size]? = some (.cells #[.string ⟨#[]⟩, .int .u8 0, .int .i64 0, .int .i64 0, .int .u64 0] 51 (0, 0)) := gfact hb3; have HGB := Lib.hid hGb; obtain ⟨_, g0, g1, g2, g3, g4, j0, j1, j2, j3, j4⟩ := blk5 hGb; clear hGb) | (go_at_call 16; (with_reducible refine (HL.out (W.alloc (.cells #[.string ⟨#[]⟩, .int .u8 0, .int .i64 0, .int .i64 0, .int .u64 0] 51)).drew l3 hk16).mono ?_); rintro e W3 ⟨rfl, hb3⟩; have hbW : Below W.heap.size W W3 := bfact_alloc_drew hb3; obtain ⟨k0, k1, k2, k3⟩ := HCC.out W3 hbW; have hGb : W3.heap[W.heap.size]? = some (.cells #[.string ⟨#[]⟩, .int .u8 0, .int .i64 0, .int .i64 0, .int .u64 0] 51 (0, 0)) := gfact_drew hb3; have HGB := Lib.hid hGb; obtain ⟨_, g0, g1, g2, g3, g4, j0, j1, j2, j3, j4⟩ := blk5 hGb; clear hGb) | (go_at_call 16; (with_reducible refine (HL.out (W.drew.alloc (.cells #[.string ⟨#[]⟩, .int .u8 0, .int .i64 0, .int .i64 0, .int .u64 0] 51)) l3 hk16).mono ?_); rintro e W3 ⟨rfl, hb3⟩; have hbW : Below W.heap.size W W3 := bfact_drew (bfact hb3); obtain ⟨k0, k1, k2, k3⟩ := HCC.out W3 hbW; have hGb : W3.heap[W.heap.size]? = some (.cells #[.string ⟨#[]⟩, .int .u8 0, .int .i64 0, .int .i64 0, .int .u64 0] 51 (0, 0)) := gfact hb3; have HGB := Lib.hid hGb; obtain ⟨_, g0, g1, g2, g3, g4, j0, j1, j2, j3, j4⟩ := blk5 hGb; clear hGb))
  · exact HK.out _ _ W3.heap.size ⟨rfl, rfl, rfl, rfl, rfl, rfl, rfl, rfl, rfl, rfl, rfl, rfl⟩ hbW.size (hbW.alloc hbW.size _) (heap_alloc_new W3 _)
  · exact HK.out _ _ W.heap.size ⟨rfl, rfl, rfl, rfl, rfl, rfl, rfl, rfl, rfl, rfl, rfl, rfl⟩ (Nat.le_refl _) (((((hbW.setCell (p := ⟨W.heap.size, 0, none⟩) (Nat.le_refl _) _).setCell (p := ⟨W.heap.size, 1, none⟩) (Nat.le_refl _) _).setCell (p := ⟨W.heap.size, 2, none⟩) (Nat.le_refl _) _).setCell (p := ⟨W.heap.size, 3, none⟩) (Nat.le_refl _) _).setCell (p := ⟨W.heap.size, 4, none⟩) (Nat.le_refl _) _) (blk_set5 HGB.out _ _ _ _ _)
end Go.Proofs.YtdlfndjgncdgfaaGreatDoor
namespace Go.Proofs.YtdlfndjgncdgfaaGreatDoor
open Go.ChangeShapes Go.WideShapes Go.ChangeAt Go.RowKit Go.Shelf

noncomputable def made24 : Code := (Tryz.f7.body.bind (afterRegion 23)).getD .skip
structure TyIn (w W : World) (p : Plan) (f : PF) (a a0 a1 ea : Option Addr) (b i n k B off T n0 e0 n1 c1 : Nat) : Prop where
  pf : PFAt w a k f B off
  bel : Below w.heap.size w W
  hb : b = w.heap.size
  hT : b + 2 < T
  out : W.cell? ⟨b + 2, 1, none⟩ = some (.slice ea n0 e0)
  bx1 : W.cell? ⟨b, 1, none⟩ = some (.slice a1 n1 c1)
  bx3 : W.cell? ⟨b, 3, none⟩ = some (.bool p.tree)
  el : p.enums.length = n0
  sl : p.structs.length = n1
  i1 : i < n1
  n16 : n1 ≤ 16
  n8 : n0 ≤ 8
  kn : k < n
  nn : n ≤ 16
theorem kp_a {p : Plan} {f : PF} {i : Nat} (h : f.kind % 13 + 1 = 10) (h0 : p.enums.length = 0) : kindP p i f = 7 ∧ refP p i f = 0 := by
  have k0 : kind0 p f = 7 := if_pos ⟨h, h0⟩
  have k1 : kindP p i f = 7 := (if_neg (by omega)).trans k0
  exact ⟨k1, (if_neg (by omega)).trans (if_neg (by omega))⟩
theorem kp_b {p : Plan} {f : PF} {i : Nat} (h : f.kind % 13 + 1 = 10) (h0 : p.enums.length ≠ 0) : kindP p i f = 10 ∧ refP p i f = f.ref % p.enums.length := by
  have k0 : kind0 p f = 10 := (if_neg (fun hh => h0 hh.2)).trans h
  have k1 : kindP p i f = 10 := (if_neg (by omega)).trans k0
  exact ⟨k1, (if_neg (by omega)).trans (if_pos k0)⟩
theorem kp_c {p : Plan} {f : PF} {i : Nat} (h : f.kind % 13 + 1 = 13) (ht : p.tree = true) (h0 : i + 1 = p.structs.length) : kindP p i f = 11 ∧ refP p i f = 0 := by
  have k0 : kind0 p f = 13 := (if_neg (by omega)).trans h
  have k1 : kindP p i f = 11 := if_pos ⟨k0, ht, h0⟩
  exact ⟨k1, (if_neg (by omega)).trans (if_neg (by omega))⟩
theorem kp_d {p : Plan} {f : PF} {i : Nat} (h : f.kind % 13 + 1 = 13) (ht : p.tree = true) (h0 : i + 1 ≠ p.structs.length) : kindP p i f = 13 ∧ refP p i f = i + 1 + f.ref % (p.structs.length - i - 1) := by
  have k0 : kind0 p f = 13 := (if_neg (by omega)).trans h
  have k1 : kindP p i f = 13 := (if_neg (fun hh => h0 hh.2.2)).trans k0
  exact ⟨k1, (if_pos k1).trans (if_pos ht)⟩
theorem kp_e {p : Plan} {f : PF} {i : Nat} (h : f.kind % 13 + 1 = 13) (ht : p.tree = false) : kindP p i f = 13 ∧ refP p i f = f.ref % p.structs.length := by
  have k0 : kind0 p f = 13 := (if_neg (by omega)).trans h
  have k1 : kindP p i f = 13 := (if_neg (fun hh => by rw [ht] at hh; cases hh.2.1)).trans k0
  exact ⟨k1, (if_pos k1).trans (if_neg (by rw [ht]; decide))⟩
theorem kp_f {p : Plan} {f : PF} {i : Nat} (h : f.kind % 13 + 1 ≠ 10) (h13 : f.kind % 13 + 1 ≠ 13) : kindP p i f = f.kind % 13 + 1 ∧ refP p i f = 0 := by
  have k0 : kind0 p f = f.kind % 13 + 1 := if_neg (fun hh => h hh.1)
  have k1 : kindP p i f = f.kind % 13 + 1 := (if_neg (fun hh => h13 (k0 ▸ hh.1))).trans k0
  exact ⟨k1, (if_neg (by omega)).trans (if_neg (by omega))⟩
theorem tmod_nat (x y : Nat) : (x : Int).tmod (y : Int) = ((x % y : Nat) : Int) := by
  rw [Int.tmod_eq_emod_of_nonneg (by omega)]
  exact (Int.natCast_emod x y).symm
set_option maxRecDepth 100000 in
set_option maxHeartbeats 4000000 in
theorem kinds_wp {Q : Exit → Act → World → Prop} {c : Act} {w W : World} {p : Plan} {f : PF} {a a0 a1 ea : Option Addr} {b i n c0 R k T B off n0 e0 n1 c1 : Nat} (hc : FrE b i a n c0 R k T c) (hin : TyIn w W p f a a0 a1 ea b i n k B off T n0 e0 n1 c1) (ht : MTyAt W T (f.kind % 13 + 1) 0 (f.lists % 4))
    (hK : ∀ c' w' G, FrF b i a n c0 R k T G c' → T < G → Below T W w' → MTyAt w' T (kindP p i f) (refP p i f) (f.lists % 4) → FldAt w' G ⟨labelOf f.name k, kindP p i f, refP p i f, f.lists % 4, 0⟩ → Code.wp Tryz.prog made35 Q c' w') :
    Code.wp Tryz.prog made24 Q c W := by
  obtain ⟨u, rfl⟩ := fre_lit hc
  obtain ⟨pf, bel, hb, hT, out, bx1, bx3, el, sl, i1, n16, n8, kn, nn⟩ := hin
  have hTW : T < W.heap.size := blk_lt ht
  have HT := Lib.hid ht
  have HPF := Lib.hid pf
  have HBEL := Lib.hid bel
  -- what ends each way: the rest of the round, from a world in which the type is made
  have HE : Hid (∀ (c' : Act) (W' : World) (K : Act → World → Prop), FrE b i a n c0 R k T c' → Below T W W' → MTyAt W' T (kindP p i f) (refP p i f) (f.lists % 4) → (∀ a w, Code.wp Tryz.prog made35 Q a w → K a w) → Code.wp Tryz.prog made34 (Exit.then K Q) c' W') := Lib.hid (fun c' W' K h1 h2 h3 h4 =>
    fld_wp h1 pf (bel.trans (h2.mono (by omega))) kn nn h3 (fun c2 w2 G g1 g2 g3 g4 => h4 _ _ (hK c2 w2 G g1 (by have := blk_lt h3; omega) (h2.trans (g3.mono (Nat.le_of_lt (blk_lt h3)))) (blk_below h3 g3 (blk_lt h3)) g4)))
  obtain ⟨_, t0, t1, t2, s0, s1, s2⟩ := blk3 ht
  have HEL := Lib.hid el
  have HSL := Lib.hid sl
  have hq13 : f.kind % 13 < 13 := by omega
  obtain ⟨rfl, hB, x0, x1, x2, x3, x4, l0, l1, l2, l3, l4⟩ := pf
  have y2 := (bel.cell (p := ⟨B, off + k * 5 + 2, none⟩) hB).trans x2
  have hBT : B < T := by omega
  have hki : (k : Int) < n := by omega
  have BX1 := Lib.hid bx1
  have Y2 := Lib.hid y2
  clear hc hK ht bel el sl x0 x1 x2 x3 x4 l0 l1 l3 l4 hB hb
  conv => arg 2; whnf
  by_cases h10 : f.kind % 13 + 1 = 10
  · by_cases hn0 : n0 = 0
    · -- no enum: a number
      obtain ⟨e1, e2⟩ := kp_a (p := p) (i := i) h10 (by rw [HEL.out]; exact hn0)
      rw [e1, e2] at HE
      rw [h10] at t0 HT
      subst hn0
      clear e1 e2 h10
      go_upto_region 34 with (fail)
      refine HE.out _ _ _ ⟨rfl, rfl, rfl, rfl, rfl, rfl, rfl, rfl, rfl, rfl, rfl⟩ ?_ ?_ (by assumption)
      · exact (Below.refl _ _).setCell (p := ⟨T, 0, none⟩) (Nat.le_refl _) _
      · exact (blk_set HT.out 0 _).trans rfl
    · -- an enum
      obtain ⟨e1, e2⟩ := kp_b (p := p) (i := i) h10 (by rw [HEL.out]; exact hn0)
      rw [HEL.out] at e2
      rw [e1, e2] at HE
      rw [h10] at t0 HT
      have w1 := IntWalk.i64_in (f.ref : Int) (by omega)
      have w2 := tmod_nat f.ref n0
      have hlt : f.ref % n0 < n0 := Nat.mod_lt _ (by omega)
      have w3 := IntWalk.i64_in ((f.ref % n0 : Nat) : Int) (by omega)
      have z0 : (n0 : Int) ≠ 0 := by omega
      have z1 : ((n0 : Int) == 0) = false := by simp; omega
      generalize f.ref % n0 = rr at *
      clear e1 e2 h10
      go_upto_region 27 with (fail)
      go_still_tail 11, (by kernel_rfl)
      change wpList _ _ _ _ _ W.drew
      have d0 : W.drew.cell? ⟨T, 0, none⟩ = some (.int .u8 10) := t0
      have HTD := Lib.hid (show MTyAt W.drew T 10 0 (f.lists % 4) from HT.out)
      have HBD := Lib.hid ((Below.refl T W).drew)
      obtain ⟨_, t0', t1', t2', s0', s1', s2'⟩ := blk3 HTD.out
      have bx3' : W.drew.cell? ⟨b, 3, none⟩ = some (.bool p.tree) := bx3
      clear t0 t1 t2 s0 s1 s2 d0 HT bx3 out bx1 y2
      generalize W.drew = W2 at *
      go_upto_region 34 with (fail)
      refine HE.out _ _ _ ⟨rfl, rfl, rfl, rfl, rfl, rfl, rfl, rfl, rfl, rfl, rfl⟩ ?_ ?_ (by assumption)
      · exact HBD.out.setCell (p := ⟨T, 1, none⟩) (Nat.le_refl _) _
      · exact (blk_set HTD.out 1 _).trans rfl
  · have k10 : ((f.kind % 13 + 1 : Nat) : Int) ≠ 10 := by omega
    by_cases h13 : f.kind % 13 + 1 = 13
    · rw [h13] at t0 HT
      clear k10
      generalize htr : p.tree = tr at *
      cases tr with
      | true =>
        by_cases hla : i + 1 = n1
        · -- the last struct: a text
          obtain ⟨e1, e2⟩ := kp_c (p := p) (i := i) h13 htr (by rw [HSL.out]; exact hla)
          rw [e1, e2] at HE
          have hlb : ((i : Int) + 1 == n1) = true := by simp; omega
          clear e1 e2 h10 h13 htr
          go_upto_region 34 with (fail)
          refine HE.out _ _ _ ⟨rfl, rfl, rfl, rfl, rfl, rfl, rfl, rfl, rfl, rfl, rfl⟩ ?_ ?_ (by assumption)
          · exact (Below.refl _ _).setCell (p := ⟨T, 0, none⟩) (Nat.le_refl _) _
          · exact (blk_set HT.out 0 _).trans rfl
        · -- a struct behind this one
          obtain ⟨e1, e2⟩ := kp_d (p := p) (i := i) h13 htr (by rw [HSL.out]; exact hla)
          rw [HSL.out] at e2
          rw [e1, e2] at HE
          have hlb : ((i : Int) + 1 == n1) = false := by simp; omega
          have w1 := IntWalk.i64_in (f.ref : Int) (by omega)
          have w2 := tmod_nat f.ref n1
          have hlt : f.ref % n1 < n1 := Nat.mod_lt _ (by omega)
          have w3 := IntWalk.i64_in ((f.ref % n1 : Nat) : Int) (by omega)
          have z0 : (n1 : Int) ≠ 0 := by omega
          have z2 : ¬ n1 = 0 := by omega
          have z1 : ((n1 : Int) == 0) = false := by simp; omega
          have v2 : (f.ref : Int).tmod ((n1 : Int) - i - 1) = ((f.ref % (n1 - i - 1) : Nat) : Int) := by rw [show (n1 : Int) - i - 1 = ((n1 - i - 1 : Nat) : Int) by omega]; exact tmod_nat _ _
          have hlt2 : f.ref % (n1 - i - 1) < n1 - i - 1 := Nat.mod_lt _ (by omega)
          have v3 := IntWalk.i64_in ((f.ref % (n1 - i - 1) : Nat) : Int) (by omega)
          have v4 := IntWalk.i64_in ((n1 : Int) - i) (by omega)
          have v5 := IntWalk.i64_in ((n1 : Int) - i - 1) (by omega)
          have v6 := IntWalk.i64_in ((i : Int) + 1) (by omega)
          have v7 := IntWalk.i64_in ((i : Int) + 1 + (f.ref % (n1 - i - 1) : Nat)) (by omega)
          have v8 : (n1 : Int) - i - 1 ≠ 0 := by omega
          have v9 : ((n1 : Int) - i - 1 == 0) = false := by simp; omega
          have va : ¬ ((n1 : Int) - i = 1) := by omega
          have HES := Lib.hid (show ((i + 1 + f.ref % (n1 - i - 1) : Nat) : Int) = (i : Int) + 1 + ((f.ref % (n1 - i - 1) : Nat) : Int) by omega)
          generalize f.ref % (n1 - i - 1) = r2 at *
          generalize f.ref % n1 = rr at *
          clear e1 e2 h10 h13 htr
          go_upto_region 31 with (fail)
          go_still_tail 11, (by kernel_rfl)
          change wpList _ _ _ _ _ W.drew
          have d0 : W.drew.cell? ⟨T, 0, none⟩ = some (.int .u8 13) := t0
          have HTD := Lib.hid (show MTyAt W.drew T 13 0 (f.lists % 4) from HT.out)
          have HBD := Lib.hid ((Below.refl T W).drew)
          obtain ⟨_, t0', t1', t2', s0', s1', s2'⟩ := blk3 HTD.out
          have bx1' : W.drew.cell? ⟨b, 1, none⟩ = some (.slice a1 n1 c1) := bx1
          have bx3' : W.drew.cell? ⟨b, 3, none⟩ = some (.bool true) := bx3
          have y2' : W.drew.cell? ⟨B, off + k * 5 + 2, none⟩ = some (.int .u8 (f.ref : Nat)) := y2
          clear t0 t1 t2 s0 s1 s2 d0 HT bx3 out bx1 y2
          generalize W.drew = W2 at *
          go_upto_region 33 with (fail)
          have HTS := Lib.hid (show MTyAt (W2.setCell ⟨T, 1, none⟩ (.int .i64 rr)) T 13 rr (f.lists % 4) from (blk_set HTD.out 1 _).trans rfl)
          have HBS := Lib.hid (HBD.out.setCell (p := ⟨T, 1, none⟩) (Nat.le_refl _) (.int .i64 rr))
          have bx1s := (HBS.out.cell (p := ⟨b, 1, none⟩) (by show b < T; omega)).trans BX1.out
          have y2s := (HBS.out.cell (p := ⟨B, off + k * 5 + 2, none⟩) hBT).trans Y2.out
          obtain ⟨_, r0, r1, r2c, p0, p1, p2⟩ := blk3 HTS.out
          clear t0' t1' t2' s0' s1' s2' bx1' bx3' y2'
          generalize W2.setCell ⟨T, 1, none⟩ (.int .i64 rr) = W3 at *
          go_still_tail 17, (by kernel_rfl)
          change wpList _ _ _ _ _ W3.drew
          have HTE := Lib.hid (show MTyAt W3.drew T 13 rr (f.lists % 4) from HTS.out)
          have HBE := Lib.hid HBS.out.drew
          obtain ⟨_, r0', r1', r2', p0', p1', p2'⟩ := blk3 HTE.out
          clear r0 r1 r2c p0 p1 p2 bx1s y2s HTS HBS
          generalize W3.drew = W4 at *
          go_upto_region 34 with (fail)
          refine HE.out _ _ _ ⟨rfl, rfl, rfl, rfl, rfl, rfl, rfl, rfl, rfl, rfl, rfl⟩ ?_ ?_ (by assumption)
          · exact HBE.out.setCell (p := ⟨T, 1, none⟩) (Nat.le_refl _) _
          · exact (blk_set HTE.out 1 _).trans (by rw [← HES.out]; rfl)
      | false =>
        obtain ⟨e1, e2⟩ := kp_e (p := p) (i := i) h13 htr
        rw [HSL.out] at e2
        rw [e1, e2] at HE
        have w1 := IntWalk.i64_in (f.ref : Int) (by omega)
        have w2 := tmod_nat f.ref n1
        have hlt : f.ref % n1 < n1 := Nat.mod_lt _ (by omega)
        have w3 := IntWalk.i64_in ((f.ref % n1 : Nat) : Int) (by omega)
        have z0 : (n1 : Int) ≠ 0 := by omega
        have z2 : ¬ n1 = 0 := by omega
        have z1 : ((n1 : Int) == 0) = false := by simp; omega
        generalize f.ref % n1 = rr at *
        clear e1 e2 h10 h13 htr
        go_upto_region 31 with (fail)
        go_still_tail 11, (by kernel_rfl)
        change wpList _ _ _ _ _ W.drew
        have d0 : W.drew.cell? ⟨T, 0, none⟩ = some (.int .u8 13) := t0
        have HTD := Lib.hid (show MTyAt W.drew T 13 0 (f.lists % 4) from HT.out)
        have HBD := Lib.hid ((Below.refl T W).drew)
        obtain ⟨_, t0', t1', t2', s0', s1', s2'⟩ := blk3 HTD.out
        have bx1' : W.drew.cell? ⟨b, 1, none⟩ = some (.slice a1 n1 c1) := bx1
        have bx3' : W.drew.cell? ⟨b, 3, none⟩ = some (.bool false) := bx3
        have y2' : W.drew.cell? ⟨B, off + k * 5 + 2, none⟩ = some (.int .u8 (f.ref : Nat)) := y2
        clear t0 t1 t2 s0 s1 s2 d0 HT bx3 out bx1 y2
        generalize W.drew = W2 at *
        go_upto_region 34 with (fail)
        refine HE.out _ _ _ ⟨rfl, rfl, rfl, rfl, rfl, rfl, rfl, rfl, rfl, rfl, rfl⟩ ?_ ?_ (by assumption)
        · exact HBD.out.setCell (p := ⟨T, 1, none⟩) (Nat.le_refl _) _
        · exact (blk_set HTD.out 1 _).trans rfl
    · -- as it is
      obtain ⟨e1, e2⟩ := kp_f (p := p) (i := i) h10 h13
      rw [e1, e2] at HE
      have q1 : (((f.kind % 13 + 1 : Nat) : Int) == 10) = false := by simp; omega
      have q2 : (((f.kind % 13 + 1 : Nat) : Int) == 13) = false := by simp; omega
      generalize f.kind % 13 + 1 = q at *
      clear e1 e2 h10 h13 k10
      go_upto_region 34 with (fail)
      refine HE.out _ _ _ ⟨rfl, rfl, rfl, rfl, rfl, rfl, rfl, rfl, rfl, rfl, rfl⟩ ?_ ?_ (by assumption)
      · exact Below.refl _ _
      · exact HT.out
end Go.Proofs.YtdlfndjgncdgfaaGreatDoor
