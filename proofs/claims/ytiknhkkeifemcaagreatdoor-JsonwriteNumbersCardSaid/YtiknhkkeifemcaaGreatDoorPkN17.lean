/-
  The hand's Made: the loop over the enums. Conditions: those that each theorem names.
-/
import Derived.Test.YtiknhkkeifemcaaGreatDoorPkN15
namespace Go.Proofs.YtiknhkkeifemcaaGreatDoor
open Go.ChangeShapes Go.WideShapes Go.ChangeAt Go.RowKit Go.Shelf

structure SchAt (A : Nat) (W : World) (ss : List (SRec × Value)) (es : List (SCho × Value)) (sv ev : Value) (rt : Nat) : Prop where
  blk : W.heap[A]? = some (.cells #[sv, ev, .int .i64 rt] 30 (0, 0))
  rows : SchRows (A + 1) W ss es sv ev
theorem SchAt.below {A rt : Nat} {W W' : World} {ss : List (SRec × Value)} {es : List (SCho × Value)} {sv ev : Value} (h : SchAt A W ss es sv ev rt) (hb : Below W.heap.size W W') : SchAt A W' ss es sv ev rt :=
  ⟨blk_below h.blk hb (blk_lt h.blk), h.rows.below hb⟩
theorem mem_snc {α : Type} {l : List α} {a p : α} (h : p ∈ l ++ [a]) : p ∈ l ∨ p = a := by
  rcases List.mem_append.1 h with h | h
  · exact .inl h
  · exact .inr (List.mem_singleton.1 h)
theorem SchAt.enum {A rt : Nat} {W W4 : World} {ss : List (SRec × Value)} {es : List (SCho × Value)} {sv ev : Value} (h : SchAt A W ss es sv ev rt) {q : SCho × Value} (hq : W.ownsRow (A + 1) 9 1 q.2 q.1.names.length (strsCells q.1.names))
    (hg : W.grownBy W4 ev.ownBlock) {ev' : Value} (hown : W4.ownsRow (A + 1) 92 2 ev' (es.length + 1) (schosCells es ++ schoCells q)) : SchAt A (W4.setCell ⟨A, 1, none⟩ ev') ss (es ++ [q]) sv ev' rt := by
  have hA : ∀ k, ev.ownBlock = some k → A ≠ k := fun k hk => by have := (ownsRow_lt h.rows.enums k hk).1; omega
  have hb4 : W4.heap[A]? = some (.cells #[sv, ev, .int .i64 rt] 30 (0, 0)) := (hg.block A (blk_lt h.blk) (fun e => hA A e.symm rfl)).trans h.blk
  have key : ∀ {e : TypeId} {s : Nat} {v : Value} {n : Nat} {xs : List Value}, W.ownsRow (A + 1) e s v n xs → e ≠ 92 → (W4.setCell ⟨A, 1, none⟩ ev').ownsRow (A + 1) e s v n xs := fun ho hne =>
    ownsRow_setCell_below (rws_other hg ho (rws_ne ho h.rows.enums hne)) (Nat.lt_succ_self A) _
  refine ⟨(blk_set hb4 1 ev').trans rfl, key h.rows.structs (by decide), ?_, fun r hr => key (h.rows.fields r hr) (by decide), fun r hr => ?_⟩
  · rw [schosCells_snoc, List.length_append]
    exact ownsRow_setCell_below hown (Nat.lt_succ_self A) _
  · rcases mem_snc hr with hr | rfl
    · exact key (h.rows.names r hr) (by decide)
    · exact key hq (by decide)
theorem SchAt.strct {A rt : Nat} {W W4 : World} {ss : List (SRec × Value)} {es : List (SCho × Value)} {sv ev : Value} (h : SchAt A W ss es sv ev rt) {q : SRec × Value} (hq : W.ownsRow (A + 1) 60 5 q.2 q.1.fields.length (sfldsCells q.1.fields))
    (hg : W.grownBy W4 sv.ownBlock) {sv' : Value} (hown : W4.ownsRow (A + 1) 63 2 sv' (ss.length + 1) (srecsCells ss ++ srecCells q)) : SchAt A (W4.setCell ⟨A, 0, none⟩ sv') (ss ++ [q]) es sv' ev rt := by
  have hA : ∀ k, sv.ownBlock = some k → A ≠ k := fun k hk => by have := (ownsRow_lt h.rows.structs k hk).1; omega
  have hb4 : W4.heap[A]? = some (.cells #[sv, ev, .int .i64 rt] 30 (0, 0)) := (hg.block A (blk_lt h.blk) (fun e => hA A e.symm rfl)).trans h.blk
  have key : ∀ {e : TypeId} {s : Nat} {v : Value} {n : Nat} {xs : List Value}, W.ownsRow (A + 1) e s v n xs → e ≠ 63 → (W4.setCell ⟨A, 0, none⟩ sv').ownsRow (A + 1) e s v n xs := fun ho hne =>
    ownsRow_setCell_below (rws_other hg ho (rws_ne ho h.rows.structs hne)) (Nat.lt_succ_self A) _
  refine ⟨(blk_set hb4 0 sv').trans rfl, ?_, key h.rows.enums (by decide), fun r hr => ?_, fun r hr => key (h.rows.names r hr) (by decide)⟩
  · rw [srecsCells_snoc, List.length_append]
    exact ownsRow_setCell_below hown (Nat.lt_succ_self A) _
  · rcases mem_snc hr with hr | rfl
    · exact key (h.rows.fields r hr) (by decide)
    · exact key hq (by decide)
structure MKeeps (w : World) (b : Nat) (x0 x1 : Value) (rt : Nat) (tree : Bool) (W : World) : Prop where
  hb : b = w.heap.size
  box : W.heap[b]? = some (.cells #[x0, x1, .int .u8 rt, .bool tree] 25 (0, 0))
  res : W.heap[b + 1]? = some (.cells #[.slice none 0 0, .slice none 0 0, .int .i64 0] 30 (0, 0))
  bel : Below b w W
theorem MKeeps.below {w W W' : World} {x0 x1 : Value} {b rt B : Nat} {tree : Bool} (h : MKeeps w b x0 x1 rt tree W) (hb : Below B W W') (hB : b + 2 ≤ B) : MKeeps w b x0 x1 rt tree W' :=
  ⟨h.hb, blk_below h.box hb (by omega), blk_below h.res hb (by omega), h.bel.trans (hb.mono (by omega))⟩
theorem bel_app {A : Nat} {W W2 W4 : World} {row : Option Nat} (h2 : Below W.heap.size W W2) (hA : A < W.heap.size) (hg : W2.grownBy W4 row) (hr : ∀ k, row = some k → A ≤ k) (i : Nat) (v : Value) : Below A W (W4.setCell ⟨A, i, none⟩ v) :=
  ((h2.mono (Nat.le_of_lt hA)).grown hg (by have := h2.size; omega) hr).setCell (p := ⟨A, i, none⟩) (Nat.le_refl _) v
set_option maxRecDepth 100000 in
set_option maxHeartbeats 4000000 in
theorem enums_wp {Q : Exit → Act → World → Prop} {c : Act} {w w0 : World} {p : Plan} {a0 a1 : Option Addr} {n0 c0 n1 c1 b rt : Nat} (hp : IsPlan w p a0 n0 c0 a1 n1 c1) (h8 : n0 ≤ 8) (hc : FrA b 0 c)
    (hk : MKeeps w b (.slice a0 n0 c0) (.slice a1 n1 c1) p.root p.tree w0) (hs : SchAt (b + 2) w0 [] [] (.slice none 0 0) (.slice none 0 0) rt)
    (hQ : ∀ c' w' es ev, FrA b n0 c' → MKeeps w b (.slice a0 n0 c0) (.slice a1 n1 c1) p.root p.tree w' → SchAt (b + 2) w' [] es (.slice none 0 0) ev rt → es.map Prod.fst = chosP p n0 → Q (.exit 0) c' w') :
    Code.wp Tryz.prog (Code.loop (madeLoop 0)) Q c w0 := by
  refine wp_loop (fun c' w' => ∃ (i : Nat) (es : List (SCho × Value)) (ev : Value), i ≤ n0 ∧ FrA b i c' ∧ MKeeps w b (.slice a0 n0 c0) (.slice a1 n1 c1) p.root p.tree w' ∧ SchAt (b + 2) w' [] es (.slice none 0 0) ev rt ∧ es.map Prod.fst = chosP p i)
    (fun c' _ => n0 - (intOf (c'.tmps.getD 5 undef)).toNat) ⟨0, [], _, Nat.zero_le _, hc, hk, hs, rfl⟩ ?_
  clear hc hk hs
  rintro c wr ⟨i, es, ev, hi, hc, hk, hs, hes⟩
  have HP := Lib.hid hp
  have HQ := Lib.hid hQ
  have HK := Lib.hid hk
  have HS := Lib.hid hs
  have HES := Lib.hid hes
  have hesl : es.length = i := by have := congrArg List.length hes; rw [chosP_length] at this; simpa using this
  obtain ⟨u, rfl⟩ := fra_lit hc
  have y0 := (blk_cell hk.box 0).trans rfl
  have hbl : b + 2 < wr.heap.size := blk_lt hs.blk
  clear hc hQ hk hs hp hes
  conv => arg 2; whnf
  by_cases hlt : i < n0
  · obtain ⟨hz2, B, off, rfl, hB0, hz⟩ := HP.out.e_at i hlt
    have hB : B < b := by rw [HK.out.hb]; exact hB0
    have HNS : Hid ((choP p i).names = valsL (p.enums.getD i 0 % 32 + 1)) := Lib.hid rfl
    generalize p.enums.getD i 0 = z at *
    have HESL := Lib.hid hesl
    have hesl2 : es.length ≤ 8 := by omega
    clear hesl
    have hzr := (HK.out.bel.cell (p := ⟨B, off + i, none⟩) hB).trans hz
    have kc := one_str
    have hsz : ¬ 9223372036854775807 < 1 + (strOfNums [97 + (i : Int)]).size := by rw [strOfNums_size]; simp
    obtain ⟨hb2, hB1, hB2⟩ := two_start wr #[.int .u8 (97 + (i : Int))] #[.string (enumName i), .slice none 0 0] 5 92
    have hzr2 := (hb2.cell (p := ⟨B, off + i, none⟩) (by show B < _; omega)).trans hzr
    have HB2 := Lib.hid hb2
    have HBB := Lib.hid hB2
    have HZR2 := Lib.hid hzr2
    have HZ2 := Lib.hid hz2
    have HBX := Lib.hid (blk_below HK.out.box hb2 (by omega))
    clear hz hzr hb2 hB1 hB2 hzr2 hB0
    go_wp2_with fail
    refine vals_wp (C := wr.heap.size + 1) (z := z) (nm := .string (enumName i)) ⟨rfl, rfl, rfl, rfl, rfl, rfl, rfl, rfl, rfl⟩ HBX.out (by omega) (by omega) HZR2.out HZ2.out hlt HBB.out ?_
    intro c2 w2 nv hf hbel hC2 hrow2
    obtain ⟨nva, nvc, rfl⟩ := ownsRow_form hrow2
    have hb3 : Below wr.heap.size wr w2 := HB2.out.trans (hbel.mono (by omega))
    have hs2 := HS.out.below hb3
    have HS2 := Lib.hid hs2
    have HK2 := Lib.hid (HK.out.below hb3 (by omega))
    have HROW := Lib.hid hrow2
    obtain ⟨_, z0, z1, z2, f0, f1, f2⟩ := blk3 hs2.blk
    obtain ⟨hCl, d0, d1, _⟩ := blk2 hC2
    obtain ⟨eva, evc, rfl⟩ := ownsRow_form hs2.rows.enums
    obtain ⟨i0, hi0, hzz0, hzz1, hzz2⟩ := info_parts scho_info
    have I1 := Lib.hid hi0
    have I2 := Lib.hid hzz0
    have I3 := Lib.hid hzz1
    have I4 := Lib.hid hzz2
    have hbs : b + 2 < w2.heap.size := blk_lt hs2.blk
    have HBN := Lib.hid (heap_alloc_new w2 (.cells #[.string (enumName i), .slice nva (z % 32 + 1) nvc] 92))
    have HBA := Lib.hid ((Below.refl w2.heap.size w2).alloc (Nat.le_refl _) (.cells #[.string (enumName i), .slice nva (z % 32 + 1) nvc] 92))
    obtain ⟨u2, rfl⟩ := frb_lit hf
    clear hf hbel hC2 hrow2 hb3 hs2 hi0 hzz0 hzz1 hzz2 HS HK y0 kc hsz hz2
    simp only [Exit.inBlock, Exit.then]
    apply_assumption
    go_wp2_with (at_builtin; refine wpList_append_own _ rfl (.tmp 81) (.tmp 83) 28 rfl (b + 2 + 1) 92 i0 _ 2 40 Tryz.underlying28 I1.out I2.out I3.out I4.out rfl (by decide) _ es.length (schosCells es) rfl (row_keep HBA.out HS2.out.rows.enums) _ 1 1 [.string (enumName i), .slice nva (z % 32 + 1) nvc] rfl rfl (World.news_of_block HBN.out) (by intro u hu; simp at hu; rcases hu with rfl | rfl <;> rfl) (by unfold maxLen; omega) (by omega) (by simp; omega) ?_; intro v4 W8 hown4 hg4 hx; clear hx; obtain ⟨a4, m4, rfl⟩ := ownsRow_form hown4; have s5 := SchAt.enum (q := (choP p i, .slice nva (z % 32 + 1) nvc)) (HS2.out.below HBA.out) (by have h := ownsRow_base (row_keep HBA.out HROW.out) (show b + 2 + 1 ≤ wr.heap.size + 1 + 1 by omega); show World.ownsRow _ _ _ _ _ (choP p i).names.length (strsCells (choP p i).names); rw [HNS.out, valsL_length]; exact h) hg4 hown4; have s4 : W8.heap[b + 2]? = some (.cells #[.slice none 0 0, .slice eva es.length evc, .int .i64 rt] 30 (0, 0)) := (hg4.block (b + 2) (by simp; omega) (fun e => by have := (ownsRow_lt HS2.out.rows.enums _ e.symm).1; omega)).trans (HS2.out.below HBA.out).blk; obtain ⟨_, p0, p1, p2, q0, q1, q2⟩ := blk3 s4; have S5 := Lib.hid s5; have S6 := Lib.hid (bel_app HBA.out hbs hg4 (fun k hk => by have := (ownsRow_lt HS2.out.rows.enums k hk).1; omega) 1 (.slice a4 (es.length + 1) m4)); clear s5 s4 hown4 hg4)
    refine ⟨⟨i + 1, _, _, by omega, ⟨rfl, rfl, rfl, rfl, rfl, rfl, rfl⟩, HK2.out.below S6.out (Nat.le_refl _), S5.out, by rw [List.map_append, HES.out, chosP_succ]; rfl⟩, ?_⟩
    show n0 - (intOf (.int .i64 ((i : Int) + 1))).toNat < n0 - (intOf (.int .i64 (i : Int))).toNat
    simp [intOf]; omega
  · obtain rfl : i = n0 := by omega
    clear hlt
    go_wp2
    exact HQ.out _ _ _ _ ⟨rfl, rfl, rfl, rfl, rfl, rfl, rfl⟩ HK.out HS.out HES.out
end Go.Proofs.YtiknhkkeifemcaaGreatDoor
