/-
  The package schema's maker: its first step, all enums. Conditions: those that each theorem names.
-/
import Derived.Test.YtgbcchiheddfpaaGreatDoorPkL21
import Derived.Test.YtgbcchiheddfpaaGreatDoorPkL34
import Derived.Test.YtgbcchiheddfpaaGreatDoorPkL37
import Derived.Deep.CutRange
import Derived.Deep.RegionHeld3
namespace Go.Proofs.YtgbcchiheddfpaaGreatDoor
open Go.ChangeShapes Go.WideShapes Go.ChangeAt Go.RowKit Go.Shelf

theorem chos_step (i : Nat) (m : List NEnt) (l : List RCho) (k : Nat) (hk : k < l.length) : chosM i m (l.drop k) = (choM i m l[k]).bind fun m' => chosM (i + 1) m' (l.drop (k + 1)) := by
  rw [List.drop_eq_getElem_cons hk]
  rfl
theorem dupFrom_lt : ∀ (r seen : List ByteArray) (k : Nat), dupFrom seen r = some k → k < seen.length + r.length
  | [], _, _, h => by cases h
  | s :: r, seen, k, h => by
    rw [dupFrom] at h
    split at h
    · cases h
      simp
    · have := dupFrom_lt r (seen ++ [s]) k h
      simp at this ⊢
      omega
theorem dup_lt {l : List ByteArray} {k : Nat} (h : dup l = some k) : k < l.length := by
  have := dupFrom_lt l [] k h
  simpa using this
theorem choM_13 {k : Nat} {m : List NEnt} {q : RCho} (h : (lookN m (strOfNums q.name)).isSome = true) : choM k m q = .no 13 q.place := by
  unfold choM
  rw [if_pos h]
theorem choM_16 {k : Nat} {m : List NEnt} {q : RCho} (h : (lookN m (strOfNums q.name)).isSome = false) (h2 : false = decide (k < 8 ∧ 1 ≤ q.names.length ∧ q.names.length ≤ 32)) : choM k m q = .no 16 q.place := by
  unfold choM
  rw [if_neg (by rw [h]; decide), if_neg (of_decide_eq_false h2.symm)]
theorem choM_dup {k j : Nat} {m : List NEnt} {q : RCho} (h : (lookN m (strOfNums q.name)).isSome = false) (h2 : true = decide (k < 8 ∧ 1 ≤ q.names.length ∧ q.names.length ≤ 32)) (hd : dup (q.names.map tokT) = some j) (hj : j < q.names.length) : choM k m q = .no 13 q.names[j].place := by
  unfold choM
  rw [if_neg (by rw [h]; decide), if_pos (of_decide_eq_true h2.symm), hd]
  show MRes.no 13 (q.names.getD j noTok).place = _
  rw [List.getD, List.getElem?_eq_getElem hj]
  rfl
theorem choM_ok {k : Nat} {m : List NEnt} {q : RCho} (h : (lookN m (strOfNums q.name)).isSome = false) (h2 : true = decide (k < 8 ∧ 1 ≤ q.names.length ∧ q.names.length ≤ 32)) (hd : dup (q.names.map tokT) = none) : choM k m q = .ok (m ++ [⟨strOfNums q.name, 10, k⟩]) := by
  unfold choM
  rw [if_neg (by rw [h]; decide), if_pos (of_decide_eq_true h2.symm), hd]
def EnAt (w : World) (M b : Nat) (a : Option Addr) (c : Nat) (sv rv ssv : Value) (root : Nat) (xs : List (RCho × Value)) (m0 : List NEnt) (cf : Act) (wr : World) : Prop :=
  ∃ (k : Nat) (m : List NEnt) (es : List (SCho × Value)) (esv : Value), k ≤ xs.length ∧ EnO M w.heap.size a xs.length c k cf ∧ MAt wr M b sv (.slice a xs.length c) rv m ssv esv root ∧ Ex2 M b w.heap.size w wr ∧ wr.heap[w.heap.size]? = some (.cells #[.int .i64 0, .int .i64 0] 125 (0, 0)) ∧
    ChoRows (w.heap.size + 1) wr es esv ∧ es.map Prod.fst = (xs.take k).map (fun p => choOut p.1) ∧ chosM 0 m0 (xs.map Prod.fst) = chosM k m ((xs.drop k).map Prod.fst) ∧ es.length = k
def EnPost (w : World) (M b : Nat) (sv ev rv ssv : Value) (root : Nat) (xs : List (RCho × Value)) (m0 : List NEnt) (e : Ending) (w' : World) : Prop :=
  Ex2 M b w.heap.size w w' ∧ match chosM 0 m0 (xs.map Prod.fst) with
  | .no c p => e = .returned (.agg #[.int .i64 c, .int .i64 (p : Nat)])
  | .ok m => e = .returned (.agg #[.int .i64 0, .int .i64 0]) ∧ ∃ es esv, MAt w' M b sv ev rv m ssv esv root ∧ ChoRows w.heap.size w' es esv ∧ es.map Prod.fst = xs.map (fun p => choOut p.1)
theorem en_fault {w w' : World} {M b : Nat} {sv ev rv ssv : Value} {root : Nat} {xs : List (RCho × Value)} {m0 : List NEnt} {c : Int} {p : Nat} (h : chosM 0 m0 (xs.map Prod.fst) = .no c p) (hx : Ex2 M b w.heap.size w w') :
    EnPost w M b sv ev rv ssv root xs m0 (.returned (.agg #[.int .i64 c, .int .i64 (p : Nat)])) w' := by
  unfold EnPost
  rw [h]
  exact ⟨hx, rfl⟩
theorem keep2 {w : World} {g : Nat} {p : Addr} {v x0 x1 : Value} (h : w.cell? p = some v) (hp : p.block ≠ g) : ((w.setCell ⟨g, 0, none⟩ x0).setCell ⟨g, 1, none⟩ x1).cell? p = some v := by
  have e : ∀ (w : World) (i : Nat) (x : Value), (w.setCell ⟨g, i, none⟩ x).cell? p = w.cell? p := fun w i x => World.cell?_of_block (Below.heap_setCell _ _ _ _ hp)
  rw [e, e, h]
def DecAt (W1 : World) (b k : Nat) (m : List NEnt) (name : ByteArray) (place kind : Nat) (few : Bool) (t6 i : Value) (wx : World) : Prop :=
  i = .int .i64 k ∧ ∃ (T6 : Nat) (code pl : Int), t6 = .pointer (some ⟨T6, 0, none⟩) ∧ W1.heap.size ≤ T6 ∧ wx.heap[T6]? = some (.cells #[.int .i64 code, .int .i64 pl] 125 (0, 0)) ∧ Exc b W1.heap.size W1 wx ∧
    DeclS m name place few code pl ∧ (code = 0 → MapAt wx b ((m ++ [(⟨name, kind, k⟩ : NEnt)]).map entP))
def DecIn (W1 : World) (b k : Nat) (m : List NEnt) (name : ByteArray) (place kind lim n most : Nat) (t6 i : Value) (wx : World) : Prop :=
  ∃ few : Bool, few = decide (k < lim ∧ 1 ≤ n ∧ n ≤ most) ∧ DecAt W1 b k m name place kind few t6 i wx
theorem dec_late {W1 W3 : World} {b k : Nat} {m : List NEnt} {name : ByteArray} {place kind : Nat} {few : Bool} {code pl : Int} (hx : Exc b W1.heap.size W1 W3) (hd : DeclS m name place few code pl) (hm : code = 0 → MapAt W3 b ((m ++ [(⟨name, kind, k⟩ : NEnt)]).map entP)) :
    DecAt W1 b k m name place kind few (.pointer (some ⟨W3.heap.size, 0, none⟩)) (.int .i64 k) (W3.alloc (.cells #[.int .i64 code, .int .i64 pl] 125)) :=
  ⟨rfl, _, code, pl, rfl, hx.size, heap_alloc_new W3 _, hx.alloc hx.size _, hd, fun h => (hm h).alloc _⟩
theorem exc_drew {b : Nat} {W1 W3 : World} (h : Exc b W1.drew.heap.size W1.drew W3) : Exc b W1.heap.size W1 W3 := ⟨h.os, h.tape, h.output, h.size, h.block⟩
theorem exc_alloc {b : Nat} {W1 W3 : World} {o : Obj} (h : Exc b (W1.alloc o).heap.size (W1.alloc o) W3) : Exc b W1.heap.size W1 W3 := (((Exc.refl b W1.heap.size W1).alloc (Nat.le_refl _) o).trans (h.mono (by simp)))
theorem exc_alloc_blk {b : Nat} {W1 W3 : World} {cs : Array Value} {t : TypeId} (h : Exc b (W1.alloc (.cells cs t)).heap.size (W1.alloc (.cells cs t)) W3) (hb : b < W1.heap.size) : W3.heap[W1.heap.size]? = some (.cells cs t (0, 0)) :=
  (h.block _ (by simp) (by omega)).trans (heap_alloc_new W1 _)
theorem dec_early {W1 W3 : World} {b k : Nat} {m : List NEnt} {name : ByteArray} {place kind : Nat} {few : Bool} {code pl : Int} (hx : Exc b W1.heap.size W1 W3) (hb : b < W1.heap.size) (hg : W3.heap[W1.heap.size]? = some (.cells #[.int .i64 0, .int .i64 0] 125 (0, 0))) (hd : DeclS m name place few code pl)
    (hm : code = 0 → MapAt W3 b ((m ++ [(⟨name, kind, k⟩ : NEnt)]).map entP)) :
    DecAt W1 b k m name place kind few (.pointer (some ⟨W1.heap.size, 0, none⟩)) (.int .i64 k) ((W3.setCell ⟨W1.heap.size, 0, none⟩ (.int .i64 code)).setCell ⟨W1.heap.size, 1, none⟩ (.int .i64 pl)) :=
  ⟨rfl, _, code, pl, rfl, Nat.le_refl _, blk_set2 hg _ _, (hx.setCell (p := ⟨W1.heap.size, 0, none⟩) (.inr (Nat.le_refl _)) _).setCell (p := ⟨W1.heap.size, 1, none⟩) (.inr (Nat.le_refl _)) _, hd,
    fun h => ((hm h).setCell (p := ⟨W1.heap.size, 0, none⟩) (by show W1.heap.size ≠ b; omega) _).setCell (p := ⟨W1.heap.size, 1, none⟩) (by show W1.heap.size ≠ b; omega) _⟩
theorem schosCells_one (es : List (SCho × Value)) (q : SCho × Value) : schosCells es ++ [.string q.1.name, q.2] = schosCells (es ++ [q]) := by rw [schosCells_snoc]; rfl
theorem en_more {w w5 W2 W8 : World} {M b root : Nat} {sv ev rv ssv esv v4 : Value} {m : List NEnt} {es : List (SCho × Value)} {q : SCho × Value} {base : Nat} (hMw : M < w.heap.size) (hbw : b < w.heap.size) (hne : M ≠ b) (hx : Ex2 M b w.heap.size w w5) (hR : w5.heap[w.heap.size]? = some (.cells #[.int .i64 0, .int .i64 0] 125 (0, 0)))
    (hrows : ChoRows (w.heap.size + 1) w5 es esv) (hq : w5.ownsRow base 9 1 q.2 q.1.names.length (strsCells q.1.names)) (hbase : w.heap.size + 1 ≤ base) (hMB : w5.heap[M]? = some (.cells #[sv, ev, rv, .map (some b), ssv, esv, .int .i64 root] 244 (0, 0))) (hmp : MapAt w5 b (m.map entP))
    (h2 : Below w5.heap.size w5 W2) (hg : W2.grownBy W8 esv.ownBlock) (ho : W8.ownsRow (w.heap.size + 1) 74 2 v4 (es.length + 1) (schosCells es ++ [.string q.1.name, q.2])) :
    W8.heap[M]? = some (.cells #[sv, ev, rv, .map (some b), ssv, esv, .int .i64 root] 244 (0, 0)) ∧ MAt (W8.setCell ⟨M, 5, none⟩ v4) M b sv ev rv m ssv v4 root ∧ Ex2 M b w.heap.size w (W8.setCell ⟨M, 5, none⟩ v4) ∧
    (W8.setCell ⟨M, 5, none⟩ v4).heap[w.heap.size]? = some (.cells #[.int .i64 0, .int .i64 0] 125 (0, 0)) ∧ ChoRows (w.heap.size + 1) (W8.setCell ⟨M, 5, none⟩ v4) (es ++ [q]) v4 := by
  have hlow : ∀ k, esv.ownBlock = some k → w.heap.size + 1 ≤ k := fun k hk => (ownsRow_lt hrows.enums k hk).1
  have h2s := h2.size
  have hxs := hx.size
  have hbk : ∀ k, k < w.heap.size + 1 → k < w5.heap.size → W8.heap[k]? = w5.heap[k]? := fun k hk hk5 => (hg.block k (by omega) (fun e => by have := hlow k e.symm; omega)).trans (h2.block k hk5)
  have hRl := blk_lt hR
  have hM8 := (hbk M (by omega) (by omega)).trans hMB
  have key : ∀ {e : TypeId} {s : Nat} {v : Value} {n : Nat} {xs : List Value} {bs : Nat}, w.heap.size + 1 ≤ bs → w5.ownsRow bs e s v n xs → e ≠ 74 → (W8.setCell ⟨M, 5, none⟩ v4).ownsRow (w.heap.size + 1) e s v n xs := fun hbs ho' hne' =>
    ownsRow_setCell_below (rws_other hg (row_keep h2 (ownsRow_base ho' hbs)) (rws_ne (row_keep h2 ho') (row_keep h2 hrows.enums) hne')) (by show M < w.heap.size + 1; omega) _
  refine ⟨hM8, ⟨(blk_set hM8 5 v4).trans rfl, ?_, hne⟩, ?_, ?_, ?_, ?_⟩
  · exact (hmp.of_block (hbk b (by omega) (by omega))).setCell (p := ⟨M, 5, none⟩) hne v4
  · exact ((hx.trans (.of_below (h2.mono hxs))).grown hg (by omega) (fun k hk => .inl (by have := hlow k hk; omega))).setCell (p := ⟨M, 5, none⟩) (.inl rfl) v4
  · exact blk_set_ne ((hbk w.heap.size (by omega) hRl).trans hR) (by show M ≠ _; omega) v4
  · rw [← schosCells_one, List.length_append]
    exact ownsRow_setCell_below ho (by show M < w.heap.size + 1; omega) _
  · intro r hr
    rcases List.mem_append.1 hr with hr | hr
    · exact key (Nat.le_refl _) (hrows.names r hr) (by decide)
    · rw [List.mem_singleton.1 hr]
      exact key hbase hq (by decide)
set_option linter.unusedSimpArgs false in
set_option maxRecDepth 100000 in
set_option maxHeartbeats 8000000 in
theorem enums_any (w : World) (M b : Nat) (sv ev rv ssv : Value) (root : Nat) (xs : List (RCho × Value)) (m0 : List NEnt) (rb : Nat) (hM : MAt w M b sv ev rv m0 ssv (.slice none 0 0) root)
    (hraw : ∀ W, Ex2 M b w.heap.size w W → W.ownsRow rb 291 3 ev xs.length (chosCells xs) ∧ ∀ p ∈ xs, W.ownsRow rb 282 3 p.2 p.1.names.length (toksCells p.1.names))
    (hsz : ∀ p ∈ xs, p.1.name.length ≤ 100 ∧ ∀ t ∈ p.1.names, t.text.length ≤ 100) :
    Calls Tryz.prog 121 #[.pointer (some ⟨M, 0, none⟩)] w (EnPost w M b sv ev rv ssv root xs m0) := by
  have HRAW := Lib.hid hraw
  have HSZ := Lib.hid hsz
  obtain ⟨eva, evc, rfl⟩ := ownsRow_form (hraw w (Ex2.refl _ _ _ _)).1
  have hfew := row_few (hraw w (Ex2.refl _ _ _ _)).1
  have hb0 : Below w.heap.size w (w.alloc (.cells #[.int .i64 0, .int .i64 0] 125)) := (Below.refl _ _).alloc (Nat.le_refl _) _
  have HX0 := Lib.hid (Ex2.of_below (R := M) (S := b) hb0)
  have HM0 := Lib.hid (hM.fell hb0)
  have HR0 := Lib.hid (heap_alloc_new w (.cells #[.int .i64 0, .int .i64 0] 125))
  have hMw : M < w.heap.size := blk_lt hM.blk
  have hbw : b < w.heap.size := hM.map.lt
  have hMb := hM.ne
  clear hraw hsz hb0 hM
  go_enter Tryz.func121, Tryz.ntmps121
  go_upto_region 1 with (fail)
  generalize w.alloc (.cells #[.int .i64 0, .int .i64 0] 125) = W0 at *
  obtain ⟨_, z0, z1, z2, z3, z4, z5, z6, _⟩ := HM0.out.cells
  go_wp2_with fail
  clear z0 z1 z2 z3 z4 z5 z6
  refine wp_loop (EnAt w M b eva evc sv rv ssv root xs m0) (fun c' _ => xs.length - (intOf (c'.tmps.getD 17 undef)).toNat) ⟨0, m0, [], _, Nat.zero_le _, ⟨rfl, rfl, rfl, rfl, rfl, rfl, rfl⟩, HM0.out, HX0.out, HR0.out, ⟨World.ownsRow_nil _ _ _ _, fun q hq => by cases hq⟩, rfl, rfl, rfl⟩ ?_
  clear HX0 HM0 HR0
  rintro cf wr ⟨k, m, es, esv, hk, hcf, hM, hx, hR, hrows, hes, hch, hel⟩
  · obtain ⟨u, rfl⟩ := hcf.lit
    clear hcf
    conv => arg 2; whnf
    by_cases hkl : k < xs.length
    · obtain ⟨hraw, hnames⟩ := HRAW.out wr hx
      obtain ⟨g, cc, hv, hcc, hg, hcell⟩ := row_el choCells 3 (fun _ => rfl) hraw k hkl
      obtain ⟨rfl, rfl⟩ := slice_inj hv
      have hn := hnames _ (List.getElem_mem hkl)
      obtain ⟨na, nc, hnv⟩ := ownsRow_form hn
      have x0 : wr.cell? ⟨g, k * 3, none⟩ = some (.string (strOfNums xs[k].1.name)) := hcell 0 (by omega)
      have x1 : wr.cell? ⟨g, k * 3 + 1, none⟩ = some (.int .i64 xs[k].1.place) := hcell 1 (by omega)
      have x2 : wr.cell? ⟨g, k * 3 + 2, none⟩ = some (.slice na xs[k].1.names.length nc) := by rw [← hnv]; exact hcell 2 (by omega)
      rw [hnv] at hn
      have hnall : ∀ W, Ex2 M b w.heap.size w W → W.ownsRow rb 282 3 (.slice na xs[k].1.names.length nc) xs[k].1.names.length (toksCells xs[k].1.names) := fun W hW => by rw [← hnv]; exact (HRAW.out W hW).2 _ (List.getElem_mem hkl)
      have hst : chosM 0 m0 (xs.map Prod.fst) = (choM k m xs[k].1).bind fun m' => chosM (k + 1) m' ((xs.drop (k + 1)).map Prod.fst) := by
        rw [hch, List.map_drop, List.map_drop, chos_step k m (xs.map Prod.fst) k (by simpa using hkl)]
        simp
      have hesn : es.map Prod.fst ++ [choOut xs[k].1] = (xs.take (k + 1)).map (fun p => choOut p.1) := by rw [List.take_succ_eq_append_getElem hkl, List.map_append, hes]; rfl
      obtain ⟨hsz1, hsz2⟩ := HSZ.out _ (List.getElem_mem hkl)
      generalize xs[k].1 = q at *
      have HST := Lib.hid hst
      have HESN := Lib.hid hesn
      have HSZ2 := Lib.hid hsz2
      have HNR := Lib.hid hn
      have HN := Lib.hid hnall
      have HM := Lib.hid hM
      have HX := Lib.hid hx
      have HR := Lib.hid hR
      have HROWS := Lib.hid hrows
      have hfewn := row_few hn
      have hxs := hx.size
      have hMr : M < wr.heap.size := by omega
      obtain ⟨hb1, hq4, hq5⟩ := two_blk wr #[.string (strOfNums q.name), .int .i64 q.place, .slice na q.names.length nc] #[.int .u8 10, .int .i64 k, .int .i64 0] 291 62
      have HB1 := Lib.hid hb1
      have HQ4 := Lib.hid hq4
      have HQ5 := Lib.hid hq5
      have HEL := Lib.hid hel
      have hkb : k ≤ 9223372036854775807 := by omega
      clear hst hesn hsz2 hn hM hx hR hrows hes hch hcell hv hraw hnames hnv hb1 hq4 hq5 hel hnall
      go_upto_region 5 with (fail)
      generalize ((wr.alloc (.cells #[.string (strOfNums q.name), .int .i64 q.place, .slice na q.names.length nc] 291)).alloc (.cells #[.int .u8 10, .int .i64 k, .int .i64 0] 62)) = W1 at *
      obtain ⟨_, y0, y1, y2, _⟩ := blk3 HQ4.out
      obtain ⟨_, t0, t1, t2, _⟩ := blk3 HQ5.out
      have hl1 := IntWalk.i64_in ((q.names.length : Int) - 1) (by omega)
      have HM1 := Lib.hid (HM.out.fell HB1.out)
      have HM1D := Lib.hid (show MAt W1.drew M b sv (.slice (some ⟨g, 0, none⟩) xs.length evc) rv m ssv esv root from ⟨HM1.out.blk, HM1.out.map, HM1.out.ne⟩)
      have HM1A := Lib.hid (HM1.out.fell ((Below.refl _ _).alloc (Nat.le_refl _) (.cells #[.int .i64 0, .int .i64 0] 125)))
      have HM1AD := Lib.hid (show MAt (W1.alloc (.cells #[.int .i64 0, .int .i64 0] 125)).drew M b sv (.slice (some ⟨g, 0, none⟩) xs.length evc) rv m ssv esv root from ⟨HM1A.out.blk, HM1A.out.map, HM1A.out.ne⟩)
      have hbw1 : wr.heap.size + 1 < W1.heap.size := blk_lt HQ5.out
      have hbW : b < W1.heap.size := by omega
      have hn4 : wr.heap.size ≠ W1.heap.size := by omega
      have hn5 : wr.heap.size + 1 ≠ W1.heap.size := by omega
      have HCC := Lib.hid (show ∀ W3, Exc b W1.heap.size W1 W3 → W3.cell? ⟨wr.heap.size, 0, none⟩ = some (.string (strOfNums q.name)) ∧ W3.cell? ⟨wr.heap.size, 1, none⟩ = some (.int .i64 q.place) ∧ W3.cell? ⟨wr.heap.size, 2, none⟩ = some (.slice na q.names.length nc) ∧ W3.cell? ⟨wr.heap.size + 1, 0, none⟩ = some (.int .u8 10) ∧ W3.cell? ⟨wr.heap.size + 1, 1, none⟩ = some (.int .i64 k) ∧ W3.cell? ⟨wr.heap.size + 1, 2, none⟩ = some (.int .i64 0) from fun W3 h3 => ⟨(h3.cell (p := ⟨wr.heap.size, 0, none⟩) (by show wr.heap.size < _; omega) (by show wr.heap.size ≠ b; omega)).trans y0, (h3.cell (p := ⟨wr.heap.size, 1, none⟩) (by show wr.heap.size < _; omega) (by show wr.heap.size ≠ b; omega)).trans y1, (h3.cell (p := ⟨wr.heap.size, 2, none⟩) (by show wr.heap.size < _; omega) (by show wr.heap.size ≠ b; omega)).trans y2, (h3.cell (p := ⟨wr.heap.size + 1, 0, none⟩) (by show wr.heap.size + 1 < _; omega) (by show wr.heap.size + 1 ≠ b; omega)).trans t0, (h3.cell (p := ⟨wr.heap.size + 1, 1, none⟩) (by show wr.heap.size + 1 < _; omega) (by show wr.heap.size + 1 ≠ b; omega)).trans t1, (h3.cell (p := ⟨wr.heap.size + 1, 2, none⟩) (by show wr.heap.size + 1 < _; omega) (by show wr.heap.size + 1 ≠ b; omega)).trans t2⟩)
      go_cut [6, 17] from 17 to 88 (DecIn W1 b k m (strOfNums q.name) q.place 10 8 q.names.length 32)
      case first =>
        by_cases hk8 : (k : Int) < 8
        · obtain ⟨c, hc⟩ : ∃ c, decide (0 ≤ (q.names.length : Int) - 1 ∧ (q.names.length : Int) - 1 < 32) = c := ⟨_, rfl⟩
          have HSA := Lib.hid (fun W => samong_still _ _ c hc W)
          have HC := Lib.hid (show c = decide (k < 8 ∧ 1 ≤ q.names.length ∧ q.names.length ≤ 32) by rw [← hc]; exact decide_eq_decide.2 ⟨fun h => by omega, fun h => by omega⟩)
          clear hc
          have hd8 : decide ((k : Int) < 8) = true := decide_eq_true hk8
          go_region_held3 (fun w' => w'.cell? ⟨wr.heap.size, 0, none⟩ = some (.string (strOfNums q.name)) ∧ w'.cell? ⟨wr.heap.size, 1, none⟩ = some (.int .i64 q.place) ∧ w'.cell? ⟨wr.heap.size, 2, none⟩ = some (.slice na q.names.length nc) ∧ w'.cell? ⟨wr.heap.size + 1, 0, none⟩ = some (.int .u8 10) ∧ w'.cell? ⟨wr.heap.size + 1, 1, none⟩ = some (.int .i64 k) ∧ w'.cell? ⟨wr.heap.size + 1, 2, none⟩ = some (.int .i64 0)) (first | assumption | (with_reducible exact ⟨keep2 k0 hn4, keep2 k1 hn4, keep2 k2 hn4, keep2 k3 hn5, keep2 k4 hn5, keep2 k5 hn5⟩) | go_keep) (first | (go_at_call 50; refine (HSA.out _).mono ?_; rintro e w' ⟨rfl, rfl⟩) | (go_at_call 160; (with_reducible refine (declare_s _ _ 10 k 10 rfl c W1 HM1.out).mono ?_); rintro e W3 ⟨code, pl, rfl, hx3, hd3, hm3⟩; have hxW : Exc b W1.heap.size W1 W3 := id hx3; obtain ⟨k0, k1, k2, k3, k4, k5⟩ := HCC.out W3 hxW; have HD3 := Lib.hid hd3; have HM3 := Lib.hid hm3; clear hd3 hm3) | (go_at_call 160; (with_reducible refine (declare_s _ _ 10 k 10 rfl c W1.drew HM1D.out).mono ?_); rintro e W3 ⟨code, pl, rfl, hx3, hd3, hm3⟩; have hxW : Exc b W1.heap.size W1 W3 := exc_drew hx3; obtain ⟨k0, k1, k2, k3, k4, k5⟩ := HCC.out W3 hxW; have HD3 := Lib.hid hd3; have HM3 := Lib.hid hm3; clear hd3 hm3) | (go_at_call 160; (with_reducible refine (declare_s _ _ 10 k 10 rfl c (W1.alloc (.cells #[.int .i64 0, .int .i64 0] 125)) HM1A.out).mono ?_); rintro e W3 ⟨code, pl, rfl, hx3, hd3, hm3⟩; have hxW : Exc b W1.heap.size W1 W3 := exc_alloc hx3; obtain ⟨k0, k1, k2, k3, k4, k5⟩ := HCC.out W3 hxW; have HD3 := Lib.hid hd3; have HM3 := Lib.hid hm3; have hG := exc_alloc_blk hx3 hbW; have HG := Lib.hid hG; obtain ⟨_, g0, g1, g2, g3⟩ := blk2 hG; clear hG; clear hd3 hm3) | (go_at_call 160; (with_reducible refine (declare_s _ _ 10 k 10 rfl c (W1.alloc (.cells #[.int .i64 0, .int .i64 0] 125)).drew HM1AD.out).mono ?_); rintro e W3 ⟨code, pl, rfl, hx3, hd3, hm3⟩; have hxW : Exc b W1.heap.size W1 W3 := exc_alloc (exc_drew hx3); obtain ⟨k0, k1, k2, k3, k4, k5⟩ := HCC.out W3 hxW; have HD3 := Lib.hid hd3; have HM3 := Lib.hid hm3; have hG := exc_alloc_blk (exc_drew hx3) hbW; have HG := Lib.hid hG; obtain ⟨_, g0, g1, g2, g3⟩ := blk2 hG; clear hG; clear hd3 hm3))
          all_goals
            simp only [Exit.then]
            go_wp2_with fail
            go_meet
            case rel => exact ⟨c, HC.out, by first | exact dec_late hxW HD3.out HM3.out | exact dec_early hxW hbW HG.out HD3.out HM3.out⟩
        · have HC := Lib.hid (show false = decide (k < 8 ∧ 1 ≤ q.names.length ∧ q.names.length ≤ 32) from (decide_eq_false (fun h => hk8 (by omega))).symm)
          have hd8 : decide ((k : Int) < 8) = false := decide_eq_false hk8
          refine wp_region_held_drew (S := (fun w' => w'.cell? ⟨wr.heap.size, 0, none⟩ = some (.string (strOfNums q.name)) ∧ w'.cell? ⟨wr.heap.size, 1, none⟩ = some (.int .i64 q.place) ∧ w'.cell? ⟨wr.heap.size, 2, none⟩ = some (.slice na q.names.length nc) ∧ w'.cell? ⟨wr.heap.size + 1, 0, none⟩ = some (.int .u8 10) ∧ w'.cell? ⟨wr.heap.size + 1, 1, none⟩ = some (.int .i64 k) ∧ w'.cell? ⟨wr.heap.size + 1, 2, none⟩ = some (.int .i64 0))) (by kernel_rfl) ⟨y0, y1, y2, t0, t1, t2⟩ ?_
          intro hS
          refine wpAnyH_take (i := 0) (v := .pointer (some ⟨M, 0, none⟩)) rfl (by kernel_rfl) (by kernel_rfl) (by kernel_rfl) (fun _ _ _ h => h) (Or.inl ⟨by rfl, ?_⟩) hS ?_
          · intro w' hSw
            obtain ⟨s0, s1, s2, s3, s4, s5⟩ := hSw
            go_simp
          simp only [Act.put, List.setIfInBounds_toArray, List.set_cons_zero, List.set_cons_succ]
          refine wpAnyH_take (i := 1) (v := .pointer (some ⟨wr.heap.size, 0, none⟩)) rfl (by kernel_rfl) (by kernel_rfl) (by kernel_rfl) (fun _ _ _ h => h) (Or.inl ⟨by rfl, ?_⟩) hS ?_
          · intro w' hSw
            obtain ⟨s0, s1, s2, s3, s4, s5⟩ := hSw
            go_simp
          simp only [Act.put, List.setIfInBounds_toArray, List.set_cons_zero, List.set_cons_succ]
          refine wpAnyH_take (i := 2) (v := .string (strOfNums q.name)) rfl (by kernel_rfl) (by kernel_rfl) (by kernel_rfl) (fun _ _ _ h => h) (Or.inl ⟨by rfl, ?_⟩) hS ?_
          · intro w' hSw
            obtain ⟨s0, s1, s2, s3, s4, s5⟩ := hSw
            go_simp
          simp only [Act.put, List.setIfInBounds_toArray, List.set_cons_zero, List.set_cons_succ]
          refine wpAnyH_take (i := 3) (v := .pointer (some ⟨wr.heap.size, 1, none⟩)) rfl (by kernel_rfl) (by kernel_rfl) (by kernel_rfl) (fun _ _ _ h => h) (Or.inl ⟨by rfl, ?_⟩) hS ?_
          · intro w' hSw
            obtain ⟨s0, s1, s2, s3, s4, s5⟩ := hSw
            go_simp
          simp only [Act.put, List.setIfInBounds_toArray, List.set_cons_zero, List.set_cons_succ]
          refine wpAnyH_take (i := 4) (v := .int .i64 q.place) rfl (by kernel_rfl) (by kernel_rfl) (by kernel_rfl) (fun _ _ _ h => h) (Or.inl ⟨by rfl, ?_⟩) hS ?_
          · intro w' hSw
            obtain ⟨s0, s1, s2, s3, s4, s5⟩ := hSw
            go_simp
          simp only [Act.put, List.setIfInBounds_toArray, List.set_cons_zero, List.set_cons_succ]
          refine wpAnyH_take (i := 5) (v := .agg #[.int .u8 10, .int .i64 k, .int .i64 0]) rfl (by kernel_rfl) (by kernel_rfl) (by kernel_rfl) (fun _ _ _ h => h) (Or.inl ⟨by rfl, ?_⟩) hS ?_
          · intro w' hSw
            obtain ⟨s0, s1, s2, s3, s4, s5⟩ := hSw
            go_simp
          simp only [Act.put, List.setIfInBounds_toArray, List.set_cons_zero, List.set_cons_succ]
          refine wpAnyH_take (i := 6) (v := .int .i64 k) rfl (by kernel_rfl) (by kernel_rfl) (by kernel_rfl) (fun _ _ _ h => h) (Or.inl ⟨by rfl, ?_⟩) hS ?_
          · intro w' hSw
            obtain ⟨s0, s1, s2, s3, s4, s5⟩ := hSw
            go_simp
          simp only [Act.put, List.setIfInBounds_toArray, List.set_cons_zero, List.set_cons_succ]
          refine wpAnyH_take (i := 7) (v := .bool false) rfl (by kernel_rfl) (by kernel_rfl) (by kernel_rfl) (fun _ _ _ h => h) (Or.inl ⟨by rfl, ?_⟩) hS ?_
          · intro w' hSw
            obtain ⟨s0, s1, s2, s3, s4, s5⟩ := hSw
            go_simp
          simp only [Act.put, List.setIfInBounds_toArray, List.set_cons_zero, List.set_cons_succ]
          refine wpAnyH_take (i := 8) (v := .bool false) rfl (by kernel_rfl) (by kernel_rfl) (by kernel_rfl) (fun _ _ _ h => h) (Or.inl ⟨by rfl, ?_⟩) hS ?_
          · intro w' hSw
            obtain ⟨s0, s1, s2, s3, s4, s5⟩ := hSw
            go_simp
          simp only [Act.put, List.setIfInBounds_toArray, List.set_cons_zero, List.set_cons_succ]
          refine wpAnyH_take (i := 9) (v := undef) rfl (by kernel_rfl) (by kernel_rfl) (by kernel_rfl) (fun _ _ _ h => h) (Or.inr ⟨by kernel_rfl, rfl⟩) hS ?_
          simp only [Act.put, List.setIfInBounds_toArray, List.set_cons_zero, List.set_cons_succ]
          refine wpAnyH_take (i := 10) (v := undef) rfl (by kernel_rfl) (by kernel_rfl) (by kernel_rfl) (fun _ _ _ h => h) (Or.inr ⟨by kernel_rfl, rfl⟩) hS ?_
          simp only [Act.put, List.setIfInBounds_toArray, List.set_cons_zero, List.set_cons_succ]
          refine wpAnyH_take (i := 11) (v := undef) rfl (by kernel_rfl) (by kernel_rfl) (by kernel_rfl) (fun _ _ _ h => h) (Or.inr ⟨by kernel_rfl, rfl⟩) hS ?_
          simp only [Act.put, List.setIfInBounds_toArray, List.set_cons_zero, List.set_cons_succ]
          refine wpAnyH_take (i := 12) (v := undef) rfl (by kernel_rfl) (by kernel_rfl) (by kernel_rfl) (fun _ _ _ h => h) (Or.inr ⟨by kernel_rfl, rfl⟩) hS ?_
          simp only [Act.put, List.setIfInBounds_toArray, List.set_cons_zero, List.set_cons_succ]
          refine wpAnyH_take (i := 13) (v := undef) rfl (by kernel_rfl) (by kernel_rfl) (by kernel_rfl) (fun _ _ _ h => h) (Or.inr ⟨by kernel_rfl, rfl⟩) hS ?_
          simp only [Act.put, List.setIfInBounds_toArray, List.set_cons_zero, List.set_cons_succ]
          refine wpAnyH_take (i := 14) (v := .bool false) rfl (by kernel_rfl) (by kernel_rfl) (by kernel_rfl) (fun _ _ _ h => h) (Or.inl ⟨by rfl, ?_⟩) hS ?_
          · intro w' hSw
            obtain ⟨s0, s1, s2, s3, s4, s5⟩ := hSw
            go_simp
          simp only [Act.put, List.setIfInBounds_toArray, List.set_cons_zero, List.set_cons_succ]
          refine wpAnyH_ready (rs := [15, 16]) (by kernel_rfl) (by decide) (AllReadyH.cons rfl (fun K hK => ?_) (AllReadyH.cons rfl (fun K hK => ?_) AllReadyH.nil))
          · rw [if_pos (by kernel_rfl)]
            go_simp
            refine (declare_s _ _ 10 k 10 rfl false W1.drew HM1D.out).mono ?_
            rintro e W3 ⟨code, pl, rfl, hx3, hd3, hm3⟩
            have hxW : Exc b W1.heap.size W1 W3 := exc_drew hx3
            obtain ⟨k0, k1, k2, k3, k4, k5⟩ := HCC.out W3 hxW
            have HD3 := Lib.hid hd3
            have HM3 := Lib.hid hm3
            have hxs3 := hxW.size
            clear hd3 hm3
            refine hK.out _ _ (by first | exact ⟨k0, k1, k2, k3, k4, k5⟩ | go_keep) (fun hS => ?_)
            clear hK K
            refine wpAnyH_ready (rs := [16]) (by kernel_rfl) (by decide) (AllReadyH.cons rfl (fun K hK => ?_) AllReadyH.nil)
            rw [if_pos (by kernel_rfl)]
            go_simp
            refine hK.out _ _ (by first | exact ⟨(World.cell?_alloc_lt _ _ _ (by show wr.heap.size < _; omega)).trans k0, (World.cell?_alloc_lt _ _ _ (by show wr.heap.size < _; omega)).trans k1, (World.cell?_alloc_lt _ _ _ (by show wr.heap.size < _; omega)).trans k2, (World.cell?_alloc_lt _ _ _ (by show wr.heap.size + 1 < _; omega)).trans k3, (World.cell?_alloc_lt _ _ _ (by show wr.heap.size + 1 < _; omega)).trans k4, (World.cell?_alloc_lt _ _ _ (by show wr.heap.size + 1 < _; omega)).trans k5⟩ | go_keep) (fun hS => ?_)
            clear hK K
            refine wpAnyH_ready (rs := [17]) (by kernel_rfl) (by decide) (AllReadyH.cons rfl (fun K hK => ?_) AllReadyH.nil)
            rw [if_pos (by kernel_rfl)]
            go_simp
            refine hK.out _ _ (by first | exact ⟨(World.cell?_alloc_lt _ _ _ (by show wr.heap.size < _; omega)).trans k0, (World.cell?_alloc_lt _ _ _ (by show wr.heap.size < _; omega)).trans k1, (World.cell?_alloc_lt _ _ _ (by show wr.heap.size < _; omega)).trans k2, (World.cell?_alloc_lt _ _ _ (by show wr.heap.size + 1 < _; omega)).trans k3, (World.cell?_alloc_lt _ _ _ (by show wr.heap.size + 1 < _; omega)).trans k4, (World.cell?_alloc_lt _ _ _ (by show wr.heap.size + 1 < _; omega)).trans k5⟩ | go_keep) (fun hS => ?_)
            clear hK K
            refine wpAnyH_done (by kernel_rfl) ?_ _
            simp only [Exit.then]
            go_wp2_with fail
            go_meet
            case rel => exact ⟨false, HC.out, by first | exact dec_late hxW HD3.out HM3.out | exact dec_early hxW hbW HG.out HD3.out HM3.out⟩
          · rw [if_pos (by kernel_rfl)]
            go_simp
            refine hK.out _ _ (by first | exact ⟨(World.cell?_alloc_lt _ _ _ (by show wr.heap.size < _; omega)).trans y0, (World.cell?_alloc_lt _ _ _ (by show wr.heap.size < _; omega)).trans y1, (World.cell?_alloc_lt _ _ _ (by show wr.heap.size < _; omega)).trans y2, (World.cell?_alloc_lt _ _ _ (by show wr.heap.size + 1 < _; omega)).trans t0, (World.cell?_alloc_lt _ _ _ (by show wr.heap.size + 1 < _; omega)).trans t1, (World.cell?_alloc_lt _ _ _ (by show wr.heap.size + 1 < _; omega)).trans t2⟩ | go_keep) (fun hS => ?_)
            clear hK K
            refine wpAnyH_ready (rs := [15]) (by kernel_rfl) (by decide) (AllReadyH.cons rfl (fun K hK => ?_) AllReadyH.nil)
            rw [if_pos (by kernel_rfl)]
            go_simp
            refine (declare_s _ _ 10 k 10 rfl false (W1.alloc (.cells #[.int .i64 0, .int .i64 0] 125)).drew HM1AD.out).mono ?_
            rintro e W3 ⟨code, pl, rfl, hx3, hd3, hm3⟩
            have hxW : Exc b W1.heap.size W1 W3 := exc_alloc (exc_drew hx3)
            obtain ⟨k0, k1, k2, k3, k4, k5⟩ := HCC.out W3 hxW
            have HD3 := Lib.hid hd3
            have HM3 := Lib.hid hm3
            have hG := exc_alloc_blk (exc_drew hx3) hbW
            have HG := Lib.hid hG
            obtain ⟨_, g0, g1, g2, g3⟩ := blk2 hG
            clear hG hd3 hm3
            refine hK.out _ _ (by first | exact ⟨k0, k1, k2, k3, k4, k5⟩ | go_keep) (fun hS => ?_)
            clear hK K
            refine wpAnyH_ready (rs := [17]) (by kernel_rfl) (by decide) (AllReadyH.cons rfl (fun K hK => ?_) AllReadyH.nil)
            rw [if_pos (by kernel_rfl)]
            go_simp
            refine hK.out _ _ (by first | exact ⟨keep2 k0 hn4, keep2 k1 hn4, keep2 k2 hn4, keep2 k3 hn5, keep2 k4 hn5, keep2 k5 hn5⟩ | go_keep) (fun hS => ?_)
            clear hK K
            refine wpAnyH_done (by kernel_rfl) ?_ _
            simp only [Exit.then]
            go_wp2_with fail
            go_meet
            case rel => exact ⟨false, HC.out, by first | exact dec_late hxW HD3.out HM3.out | exact dec_early hxW hbW HG.out HD3.out HM3.out⟩
      case rest =>
        obtain ⟨few, hfw, hi, T6, code, pl, ht, hT6, hF6, hx6, hds, hms⟩ := hcut
        subst hi ht
        have hw1 := HB1.out.size
        have hT4 : wr.heap.size + 1 < W1.heap.size := blk_lt HQ5.out
        have HX6 := Lib.hid ((HX.out.trans (.of_below (HB1.out.mono hxs))).trans (.of_exc2 (hx6.mono (by omega : w.heap.size ≤ W1.heap.size))))
        have HR6 := Lib.hid (blk_exc (blk_below HR.out HB1.out (blk_lt HR.out)) hx6 (by omega) (by omega : w.heap.size ≠ b))
        have hq6 := blk_exc HQ4.out hx6 (by omega) (by omega)
        have HROW6 := Lib.hid ((HROWS.out.below HB1.out).ex2 (.of_exc2 (R := M) (S := b) hx6) (by omega) (by omega))
        have HMB6 := Lib.hid (blk_exc HM1.out.blk hx6 (by omega) HM1.out.ne)
        have HQ6 := Lib.hid hq6
        have HF6 := Lib.hid hF6
        have hT6l := blk_lt hF6
        have hwc := hx6.size
        clear hx6 y0 y1 y2 t0 t1 t2 HM1D HM1A HM1AD HCC hn4 hn5
        obtain ⟨_, f0, f1, _⟩ := blk2 hF6
        obtain ⟨_, r0, r1, p0, p1⟩ := blk2 HR6.out
        obtain ⟨_, y0, y1, y2, _⟩ := blk3 hq6
        clear hF6 hq6
        rcases hds with ⟨rfl, hl, rfl⟩ | ⟨rfl, hl, rfl, rfl⟩ | ⟨rfl, hl, rfl⟩
        · have HS1 : Hid (chosM 0 m0 (xs.map Prod.fst) = .no 13 q.place) := Lib.hid (by rw [HST.out, choM_13 hl]; rfl)
          clear hl hfw hms
          go_wp2
          refine post_gen (fun Wf => Wf.heap[w.heap.size]? = some (.cells #[.int .i64 13, .int .i64 q.place] 125 (0, 0)) ∧ Ex2 M b w.heap.size w Wf) ⟨blk_set2 HR6.out _ _, (HX6.out.setCell (p := ⟨w.heap.size, 0, none⟩) (.inr (.inr (Nat.le_refl _))) _).setCell (p := ⟨w.heap.size, 1, none⟩) (.inr (.inr (Nat.le_refl _))) _⟩ ?_
          rintro Wf ⟨e1, e2⟩
          obtain ⟨_, c0, c1, _⟩ := blk2 e1
          exact bodyPost_ret (v := .agg #[.int .i64 13, .int .i64 q.place]) (by simp [results, Tryz.results121, go_sem, c0, c1]) rfl (en_fault HS1.out e2)
        · have HS1 : Hid (chosM 0 m0 (xs.map Prod.fst) = .no 16 q.place) := Lib.hid (by rw [HST.out, choM_16 hl hfw]; rfl)
          clear hl hfw hms
          go_wp2
          refine post_gen (fun Wf => Wf.heap[w.heap.size]? = some (.cells #[.int .i64 16, .int .i64 q.place] 125 (0, 0)) ∧ Ex2 M b w.heap.size w Wf) ⟨blk_set2 HR6.out _ _, (HX6.out.setCell (p := ⟨w.heap.size, 0, none⟩) (.inr (.inr (Nat.le_refl _))) _).setCell (p := ⟨w.heap.size, 1, none⟩) (.inr (.inr (Nat.le_refl _))) _⟩ ?_
          rintro Wf ⟨e1, e2⟩
          obtain ⟨_, c0, c1, _⟩ := blk2 e1
          exact bodyPost_ret (v := .agg #[.int .i64 16, .int .i64 q.place]) (by simp [results, Tryz.results121, go_sem, c0, c1]) rfl (en_fault HS1.out e2)
        · have HL := Lib.hid hl
          have HFW := Lib.hid hfw
          have HMS := Lib.hid (hms rfl)
          clear hl hfw hms
          go_wp2_with fail
          refine (again_tok q.names _ rb _ (HN.out _ HX6.out)).mono ?_
          rintro e W5 ⟨rfl, hb5⟩
          have HX7 := Lib.hid (HX6.out.trans (.of_below (hb5.mono (by omega))))
          have HR7 := Lib.hid (blk_below HR6.out hb5 (blk_lt HR6.out))
          have hq7 := blk_below HQ6.out hb5 (blk_lt HQ6.out)
          have HROW7 := Lib.hid (HROW6.out.below hb5)
          have HMB7 := Lib.hid (blk_below HMB6.out hb5 (blk_lt HMB6.out))
          have HMP7 := Lib.hid (HMS.out.below hb5 HMS.out.lt)
          have hw5 := hb5.size
          clear f0 f1 r0 r1 p0 p1 y0 y1 y2 hb5 HX6 HR6 HQ6 HROW6 HMB6 HMS HF6
          obtain ⟨_, r0, r1, p0, p1⟩ := blk2 HR7.out
          obtain ⟨_, y0, y1, y2, _⟩ := blk3 hq7
          have HQ7 := Lib.hid hq7
          clear hq7
          cases hd : dup (q.names.map tokT) with
          | some j =>
            have hj : j < q.names.length := by have := dup_lt hd; simpa using this
            obtain ⟨gn, cn, hvn, hcn, hgn, hcelln⟩ := row_el tokCells 3 (fun _ => rfl) (HN.out _ HX7.out) j hj
            obtain ⟨rfl, rfl⟩ := slice_inj hvn
            have x2 : W5.cell? ⟨gn, j * 3 + 2, none⟩ = some (.int .i64 q.names[j].place) := hcelln 2 (by omega)
            have hst := choM_dup HL.out HFW.out hd hj
            generalize q.names[j].place = pj at *
            have HCD := Lib.hid hst
            have hji : (j : Int) < q.names.length := by omega
            clear hd hvn hcelln hst
            simp only [dupI]
            have HS1 : Hid (chosM 0 m0 (xs.map Prod.fst) = .no 13 pj) := Lib.hid (by rw [HST.out, HCD.out]; rfl)
            go_wp2
            refine post_gen (fun Wf => Wf.heap[w.heap.size]? = some (.cells #[.int .i64 13, .int .i64 pj] 125 (0, 0)) ∧ Ex2 M b w.heap.size w Wf) ⟨blk_set2 HR7.out _ _, (HX7.out.setCell (p := ⟨w.heap.size, 0, none⟩) (.inr (.inr (Nat.le_refl _))) _).setCell (p := ⟨w.heap.size, 1, none⟩) (.inr (.inr (Nat.le_refl _))) _⟩ ?_
            rintro Wf ⟨e1, e2⟩
            obtain ⟨_, c0, c1, _⟩ := blk2 e1
            exact bodyPost_ret (v := .agg #[.int .i64 13, .int .i64 pj]) (by simp [results, Tryz.results121, go_sem, c0, c1]) rfl (en_fault HS1.out e2)
          | none =>
            have HST7 := Lib.hid (HST.out.trans (by rw [choM_ok HL.out HFW.out hd, mbind_ok]))
            clear hd
            simp only [dupI]
            go_wp2_with fail
            refine (clone_any (strOfNums q.name) _ (by rw [strOfNums_size]; omega)).mono ?_
            rintro e W8 ⟨rfl, hb8⟩
            have hb9 : Below W5.heap.size W5 (W8.alloc (.cells #[.string (strOfNums q.name), .slice none 0 0] 74)) := hb8.alloc hb8.size _
            have HX9 := Lib.hid (HX7.out.trans (.of_below (hb9.mono (by omega))))
            have HR9 := Lib.hid (blk_below HR7.out hb9 (blk_lt HR7.out))
            have hq9 := blk_below HQ7.out hb9 (blk_lt HQ7.out)
            have HROW9 := Lib.hid (HROW7.out.below hb9)
            have HMB9 := Lib.hid (blk_below HMB7.out hb9 (blk_lt HMB7.out))
            have HMP9 := Lib.hid (HMP7.out.below hb9 HMP7.out.lt)
            have ht8 := heap_alloc_new W8 (.cells #[.string (strOfNums q.name), .slice none 0 0] 74)
            have hw8 := hb8.size
            have HROW5b := HROW7
            clear r0 r1 p0 p1 y0 y1 y2 hb8 hb9 HX7 HR7 HQ7 HROW7 HMB7 HMP7
            simp only
            go_upto_region 12 with (fail)
            generalize hW9 : W8.alloc (.cells #[.string (strOfNums q.name), .slice none 0 0] 74) = W9 at *
            have hT8 : W8.heap.size < W9.heap.size := blk_lt ht8
            have hlow8 := Lib.hid (show (∀ k, esv.ownBlock = some k → k < W8.heap.size) ∧ ∀ r ∈ es, ∀ k, r.2.ownBlock = some k → k < W8.heap.size from ⟨fun k hk => by have := (ownsRow_lt HROW5b.out.enums k hk).2; omega, fun r hr k hk => by have := (ownsRow_lt (HROW5b.out.names r hr) k hk).2; omega⟩)
            generalize W8.heap.size = T8 at *
            clear hW9
            have HT8 := Lib.hid ht8
            have hlowT := hlow8
            obtain ⟨_, y0, y1, y2, _⟩ := blk3 hq9
            clear ht8 hq9
            go_wp2_with fail
            have hlen : q.names.length ≤ 32 := (of_decide_eq_true HFW.out.symm).2.2
            refine names_wp (M := M) (R := w.heap.size) (T := T8) (a := some ⟨g, 0, none⟩) (n := xs.length) (e := evc) (k := k) (na := na) (nc := nc) (l := q.names) ⟨rfl, rfl, rfl, rfl, rfl, rfl, rfl, rfl, rfl, rfl, rfl⟩ HT8.out (fun W hW => HN.out W (HX9.out.trans (.of_below (hW.mono (by omega))))) (fun t ht => HSZ2.out t ht) (by omega) ?_
            intro cf w5 nv hcf hb5 ht5 hr5
            obtain ⟨nva, nvc, rfl⟩ := ownsRow_form hr5
            obtain ⟨u5, rfl⟩ := hcf.lit
            have hw9 := HX9.out.size
            have hTR : w.heap.size + 1 ≤ T8 := by omega
            have HX5 := Lib.hid (HX9.out.trans (.of_below (hb5.mono (by omega))))
            have HR5 := Lib.hid (blk_below HR9.out hb5 (by omega))
            have HROW5 := Lib.hid (show ChoRows (w.heap.size + 1) w5 es esv from ⟨row_under hb5 HROW9.out.enums (fun k hk => by have := hlowT.out.1 k hk; omega), fun r hr => row_under hb5 (HROW9.out.names r hr) (fun k hk => by have := hlowT.out.2 r hr k hk; omega)⟩)
            have HMB5 := Lib.hid (blk_below HMB9.out hb5 (by omega))
            have HMP5 := Lib.hid (HMP9.out.below hb5 (by omega))
            have HNM5 := Lib.hid (show w5.ownsRow (T8 + 1) 9 1 (.slice nva q.names.length nvc) (choOut q).names.length (strsCells (choOut q).names) by show w5.ownsRow _ _ _ _ (q.names.map tokT).length (strsCells (q.names.map tokT)); rw [List.length_map]; exact hr5)
            obtain ⟨_, z0, z1, z2, z3, z4, z5, z6, _⟩ := maker_cells HMB5.out
            obtain ⟨eva5, evc5, rfl⟩ := ownsRow_form HROW5.out.enums
            obtain ⟨_, t0, t1, _⟩ := blk2 ht5
            obtain ⟨i0, hi0, hzz0, hzz1, hzz2⟩ := info_parts scho_info
            have I1 := Lib.hid hi0
            have I2 := Lib.hid hzz0
            have I3 := Lib.hid hzz1
            have I4 := Lib.hid hzz2
            have HBA := Lib.hid ((Below.refl w5.heap.size w5).drew.alloc (Nat.le_refl _) (.cells #[.string (strOfNums q.name), .slice nva q.names.length nvc] 74))
            have HNW := Lib.hid (heap_alloc_new w5.drew (.cells #[.string (strOfNums q.name), .slice nva q.names.length nvc] 74))
            have hk8 : k < 8 := (of_decide_eq_true HFW.out.symm).1
            have hes8 : es.length ≤ 8 := by rw [HEL.out]; omega
            clear hb5 ht5 hr5 hcf hi0 hzz0 hzz1 hzz2 HX9 HR9 HROW9 HMB9 HMP9
            simp only [Exit.inBlock, Exit.then]
            apply_assumption
            go_wp2_with fail
            refine wp_region_noPanic ?_
            go_region_law (first | (refine step_append_lies _ rfl (.tmp 81) (.tmp 83) 28 rfl (w.heap.size + 1) 74 i0 _ 2 40 Tryz.underlying28 I1.out I2.out I3.out I4.out rfl (by decide) _ es.length (schosCells es) rfl (row_keep HBA.out HROW5.out.enums) _ 1 1 [.string (strOfNums q.name), .slice nva q.names.length nvc] rfl rfl (World.news_of_block HNW.out) (by intro u hu; simp at hu; rcases hu with rfl | rfl <;> rfl) (by decide) (by unfold maxLen; omega) (by omega) (by simp; omega) _ rfl ?_; rintro g4 c4 W8 hown4 hg4 hat4 hlt4; obtain ⟨s4, s5, s6, s7, s8⟩ := en_more (q := (choOut q, .slice nva q.names.length nvc)) hMw hbw hMb HX5.out HR5.out HROW5.out HNM5.out (by omega) HMB5.out HMP5.out HBA.out hg4 hown4; obtain ⟨_, d0, d1, d2, d3, d4, d5, d6, e4, e5, e6⟩ := maker_cells s4; have S5 := Lib.hid s5; have S6 := Lib.hid s6; have S7 := Lib.hid s7; have S8 := Lib.hid s8; clear s4 s5 s6 s7 s8 hown4 hg4 hat4))
            all_goals
              refine NoPanic.normal ?_
              simp only [Exit.inBlock, Exit.then]
              apply_assumption
              go_wp2
              refine ⟨⟨k + 1, _, _, _, by omega, ⟨rfl, rfl, rfl, rfl, rfl, rfl, rfl⟩, S5.out, S6.out, S7.out, S8.out, by rw [List.map_append, ← HESN.out]; rfl, HST7.out, by rw [List.length_append, HEL.out]; rfl⟩, ?_⟩
              show xs.length - (intOf (.int .i64 ((k : Int) + 1))).toNat < xs.length - (intOf (.int .i64 (k : Int))).toNat
              simp [intOf]; omega
    · obtain rfl : k = xs.length := by omega
      have HD : Hid (chosM 0 m0 (xs.map Prod.fst) = .ok m) := Lib.hid (by rw [hch, List.drop_length]; rfl)
      have HES := Lib.hid (show es.map Prod.fst = xs.map (fun p => choOut p.1) by rw [hes, List.take_length])
      have HM := Lib.hid hM
      have HX := Lib.hid hx
      have HR := Lib.hid hR
      have HROWS := Lib.hid hrows
      have hxs := hx.size
      obtain ⟨_, r0, r1, p0, p1⟩ := blk2 hR
      clear hM hx hR hrows hes hch hel hkl
      go_wp2
      refine post_gen (fun Wf => Wf.heap[w.heap.size]? = some (.cells #[.int .i64 0, .int .i64 0] 125 (0, 0)) ∧ Ex2 M b w.heap.size w Wf ∧ MAt Wf M b sv (.slice eva xs.length evc) rv m ssv esv root ∧ ChoRows w.heap.size Wf es esv) ⟨blk_set2 HR.out _ _, (HX.out.setCell (p := ⟨w.heap.size, 0, none⟩) (.inr (.inr (Nat.le_refl _))) _).setCell (p := ⟨w.heap.size, 1, none⟩) (.inr (.inr (Nat.le_refl _))) _, ?_, ?_⟩ ?_
      · exact ⟨blk_set_ne (blk_set_ne HM.out.blk (by show w.heap.size ≠ M; omega) _) (by show w.heap.size ≠ M; omega) _, (HM.out.map.setCell (p := ⟨w.heap.size, 0, none⟩) (by show w.heap.size ≠ b; omega) _).setCell (p := ⟨w.heap.size, 1, none⟩) (by show w.heap.size ≠ b; omega) _, HM.out.ne⟩
      · exact ⟨ownsRow_base (ownsRow_setCell_below (ownsRow_setCell_below HROWS.out.enums (Nat.lt_succ_self _) _) (Nat.lt_succ_self _) _) (Nat.le_succ _), fun q hq => ownsRow_base (ownsRow_setCell_below (ownsRow_setCell_below (HROWS.out.names q hq) (Nat.lt_succ_self _) _) (Nat.lt_succ_self _) _) (Nat.le_succ _)⟩
      · rintro Wf ⟨e1, e2, e3, e4⟩
        obtain ⟨_, c0, c1, _⟩ := blk2 e1
        exact bodyPost_ret (v := .agg #[.int .i64 0, .int .i64 0]) (by simp [results, Tryz.results121, go_sem, c0, c1]) rfl (by unfold EnPost; rw [HD.out]; exact ⟨e2, rfl, es, esv, e3, e4, HES.out⟩)
end Go.Proofs.YtgbcchiheddfpaaGreatDoor
