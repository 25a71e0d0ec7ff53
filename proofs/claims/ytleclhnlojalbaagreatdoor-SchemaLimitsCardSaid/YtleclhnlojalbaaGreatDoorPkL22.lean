/-
  The document's own parser: the parts of a schema, plain. Conditions: those that each theorem names.
-/
import Derived.Test.YtleclhnlojalbaaGreatDoorPkL10
import Derived.Test.YtleclhnlojalbaaGreatDoorPkL12
import Derived.Test.YtleclhnlojalbaaGreatDoorPkL17
namespace Go.Proofs.YtleclhnlojalbaaGreatDoor
open Go.ChangeShapes Go.WideShapes Go.ChangeAt Go.RowKit Go.Shelf

def Sto.rd {α : Type} (st : Sto) (f : List Tok → Res α) : Res α :=
  match st with
  | .go r => f r
  | .fell c p => .no c p
def Got {α : Type} (st : Sto) (f : List Tok → Res α) (t : α) : Prop := ∀ r a r', st = .go r → f r = .ok a r' → t = a
theorem got_rd {α β : Type} {st : Sto} {f : List Tok → Res α} {k : α → List Tok → Res β} {t : α} (h : Got st f t) : (st.rd fun r => (f r).bind k) = (st.step f).rd (k t) := by
  cases st with
  | fell c p => rfl
  | go r =>
    show (f r).bind k = _
    generalize hq : f r = q
    cases q with
    | ok a r' =>
      rw [step_ok hq, h r a r' rfl hq]
      rfl
    | no c p =>
      rw [step_no hq]
      rfl
theorem got_unit {st : Sto} {f : List Tok → Res Unit} : Got st f () := fun _ _ _ _ _ => rfl
theorem step_of {α : Type} {st st' : Sto} {f : List Tok → Res α} {a : α} (h : st.rd f = st'.rd (fun r => .ok a r)) : st.step f = st' ∧ Got st f a := by
  cases st with
  | fell c p =>
    refine ⟨?_, fun r _ _ e => by cases e⟩
    cases st' with
    | go r => cases h
    | fell c' p' =>
      have h' : (Res.no c p : Res α) = .no c' p' := h
      injection h' with h1 h2
      rw [h1, h2]
      rfl
  | go r =>
    have h1 : f r = st'.rd (fun r => .ok a r) := h
    cases st' with
    | go r2 => exact ⟨step_ok h1, fun r' a' r3 e e2 => by cases e; rw [h1] at e2; exact (Res.ok.inj e2).1⟩
    | fell c' p' => exact ⟨step_no h1, fun r' a' r3 e e2 => by cases e; rw [h1] at e2; cases e2⟩
theorem step_bad {α : Type} {st : Sto} {f : List Tok → Res α} {c : Int} {p : Nat} (h : st.rd f = .no c p) (a : α) : st.step f = .fell c p ∧ Got st f a := by
  cases st with
  | fell c' p' =>
    have h' : (Res.no c' p' : Res α) = .no c p := h
    injection h' with h1 h2
    exact ⟨by rw [h1, h2]; rfl, fun r _ _ e => by cases e⟩
  | go r => exact ⟨step_no h, fun r' a' r3 e e2 => by cases e; rw [show f r = _ from h] at e2; cases e2⟩
theorem DpS.set3 {w : World} {P g c : Nat} {l : List Tok} {st : Sto} (h : DpS w P g c l st) {X : Nat} (hP : P ≠ X) (hg : g ≠ X) (x y z : Value) : DpS (((w.setCell ⟨X, 0, none⟩ x).setCell ⟨X, 1, none⟩ y).setCell ⟨X, 2, none⟩ z) P g c l st := h.other (exc_set3 w X x y z) hP hg
theorem DpS.set1 {w : World} {P g c : Nat} {l : List Tok} {st : Sto} (h : DpS w P g c l st) {X : Nat} (hP : P ≠ X) (hg : g ≠ X) (i : Nat) (x : Value) : DpS (w.setCell ⟨X, i, none⟩ x) P g c l st := h.other (exc_set w X i x) hP hg
theorem DpS.alloc {w : World} {P g c : Nat} {l : List Tok} {st : Sto} (h : DpS w P g c l st) (o : Obj) : DpS (w.alloc o) P g c l st := h.keep ((Below.refl _ _).alloc (Nat.le_refl _) _)
def PostD {α : Type} (enc : α → Value) (P g c : Nat) (l : List Tok) (w : World) (st : Sto) (f : List Tok → Res α) (e : Ending) (w' : World) : Prop :=
  ∃ a, e = .returned (enc a) ∧ DpS w' P g c l (st.step f) ∧ Exc P w.heap.size w w' ∧ Got st f a
theorem dhere_st (w : World) (P g c : Nat) (l : List Tok) (st : Sto) (h : DpS w P g c l st) :
    Calls Tryz.prog 50 #[.pointer (some ⟨P, 0, none⟩)] w fun e w' => ∃ t, e = .returned (tokV t) ∧ Below w.heap.size w w' ∧ (∀ r, st = .go r → t = hd r) := by
  cases st with
  | go r => exact (dhere_any w P g c l r _ h).mono fun e w' ⟨he, hb⟩ => ⟨hd r, he, hb, fun r' e' => by cases e'; rfl⟩
  | fell c' p => exact (dhere_any w P g c l _ _ h.2.choose_spec).mono fun e w' ⟨he, hb⟩ => ⟨_, he, hb, fun r' e' => by cases e'⟩
def nmR (q : Bool) (r : List Tok) : Res Tok := if q = true then labelR r else nameR r
theorem dname_any (w : World) (P g c : Nat) (l : List Tok) (st : Sto) (q : Bool) (h : DpS w P g c l st) :
    Calls Tryz.prog 54 #[.pointer (some ⟨P, 0, none⟩), .bool q] w (PostD tokV P g c l w st (nmR q)) := by
  cases st with
  | fell c' p =>
    obtain ⟨h0, r, hd'⟩ := h
    exact (dname_fell w P g c l r (c', p) q (by simp [h0]) hd').mono fun e w' ⟨he, hd2, hx⟩ => ⟨noTok, he, ⟨h0, r, hd2⟩, hx, fun _ _ _ e => by cases e⟩
  | go r =>
    have hdr : Dp w P g c l r (0, 0) := h
    have hsz : (strOfNums (hd r).text).size = (hd r).text.length := strOfNums_size _
    have no : ∀ code : Int, code ≠ 0 → nmR q r = bad code r → Calls Tryz.prog 54 #[.pointer (some ⟨P, 0, none⟩), .bool q] w (fun e w' => e = .returned (tokV noTok) ∧ Dp w' P g c l r (code, (hd r).place) ∧ Exc P w.heap.size w w') → Calls Tryz.prog 54 #[.pointer (some ⟨P, 0, none⟩), .bool q] w (PostD tokV P g c l w (.go r) (nmR q)) := by
      intro code h0 hn hc
      refine hc.mono fun e w' ⟨he, hd2, hx⟩ => ⟨noTok, he, ?_, hx, fun r' a r2 e1 e2 => by cases e1; rw [hn] at e2; cases e2⟩
      rw [step_no (show nmR q r = .no code (hd r).place from hn)]
      exact ⟨h0, r, hd2⟩
    have ok : nmR q r = .ok (hd r) r.tail → Calls Tryz.prog 54 #[.pointer (some ⟨P, 0, none⟩), .bool q] w (fun e w' => e = .returned (tokV (hd r)) ∧ Dp w' P g c l r.tail (0, 0) ∧ Exc P w.heap.size w w') → Calls Tryz.prog 54 #[.pointer (some ⟨P, 0, none⟩), .bool q] w (PostD tokV P g c l w (.go r) (nmR q)) := by
      intro hn hc
      refine hc.mono fun e w' ⟨he, hd2, hx⟩ => ⟨hd r, he, ?_, hx, fun r' a r2 e1 e2 => by cases e1; rw [hn] at e2; exact (Res.ok.inj e2).1⟩
      rw [step_ok hn]
      exact hd2
    by_cases h1 : (hd r).kind = 1
    · have t1 : ((hd r).kind != 1) = false := by simp [h1]
      have hq : nmR q r = sizedR r := by
        cases q
        · exact if_pos (c := (hd r).kind = 1) h1
        · exact if_pos (c := (hd r).kind = 1 ∨ (hd r).kind = 3) (.inl h1)
      by_cases hn : (hd r).text.length = 0
      · exact no 12 (by decide) (hq.trans (if_pos (.inl hn))) (dname_noneN w P g c l r q t1 (by rw [hsz, hn]; rfl) hdr)
      · by_cases hm : 40 < (hd r).text.length
        · exact no 12 (by decide) (hq.trans (if_pos (.inr hm))) (dname_longN w P g c l r q t1 (by rw [hsz]; exact decide_eq_false (by omega)) (by rw [hsz]; exact decide_eq_true (by omega)) hdr)
        · exact ok (hq.trans (if_neg (by omega))) (dname_fitsN w P g c l r q t1 (by rw [h1]; decide) (by rw [hsz]; exact decide_eq_false (by omega)) (by rw [hsz]; exact decide_eq_false (by omega)) hdr)
    · have t1 : ((hd r).kind != 1) = true := by simp [h1]
      cases q
      · exact no 11 (by decide) (if_neg (c := (hd r).kind = 1) h1) (dname_badF w P g c l r t1 hdr)
      · by_cases h3 : (hd r).kind = 3
        · have t3 : ((hd r).kind == 3) = true := by simp [h3]
          have hq : nmR true r = sizedR r := if_pos (c := (hd r).kind = 1 ∨ (hd r).kind = 3) (.inr h3)
          by_cases hn : (hd r).text.length = 0
          · exact no 12 (by decide) (hq.trans (if_pos (.inl hn))) (dname_noneQ w P g c l r t1 t3 (by rw [hsz, hn]; rfl) hdr)
          · by_cases hm : 40 < (hd r).text.length
            · exact no 12 (by decide) (hq.trans (if_pos (.inr hm))) (dname_longQ w P g c l r t1 t3 (by rw [hsz]; exact decide_eq_false (by omega)) (by rw [hsz]; exact decide_eq_true (by omega)) hdr)
            · exact ok (hq.trans (if_neg (by omega))) (dname_fitsQ w P g c l r t1 t3 (by rw [h3]; decide) (by rw [hsz]; exact decide_eq_false (by omega)) (by rw [hsz]; exact decide_eq_false (by omega)) hdr)
        · exact no 11 (by decide) (if_neg (c := (hd r).kind = 1 ∨ (hd r).kind = 3) (by omega)) (dname_badT w P g c l r t1 (by simp [h3]) hdr)
end Go.Proofs.YtleclhnlojalbaaGreatDoor
namespace Go.Proofs.YtleclhnlojalbaaGreatDoor
open Go.ChangeShapes Go.WideShapes Go.ChangeAt Go.RowKit Go.Shelf

def tyTail (t : Tok) (n p k : Nat) (r : List Tok) : Res RTy := (closeR k r).bind fun _ r3 => .ok ⟨t.text, n, p⟩ r3
theorem tyEnd_got {st : Sto} {t : Tok} {n p : Nat} (h : Got st nameR t) : st.rd (tyEnd p n) = (st.step nameR).rd (tyTail t n p n) := got_rd (k := fun (t : Tok) (r2 : List Tok) => tyTail t n p n r2) h
theorem tail_step {st : Sto} {t : Tok} {n p k : Nat} (h : k < n) : st.rd (tyTail t n p (n - k)) = (st.step (wantR [62])).rd (tyTail t n p (n - (k + 1))) := by
  have e : (tyTail t n p (n - k)) = fun r => (wantR [62] r).bind fun _ r' => tyTail t n p (n - (k + 1)) r' := by
    funext r
    unfold tyTail
    rw [close_step h]
    cases wantR [62] r <;> rfl
  rw [e]
  exact got_rd (k := fun _ r' => tyTail t n p (n - (k + 1)) r') got_unit
theorem lists_got {st : Sto} {r : List Tok} {n p : Nat} (hn : n < 3) (hst : st = .go r) (h : isT 1 wList r = true) :
    st.rd (fun r1 => (listsR (3 - n) n r1).bind (tyEnd p)) = ((Sto.go r.tail).step (wantR [60])).rd (fun r1 => (listsR (3 - (n + 1)) (n + 1) r1).bind (tyEnd p)) := by
  subst hst
  show (listsR (3 - n) n r).bind (tyEnd p) = _
  rw [lists_step hn h]
  rw [← got_rd (f := wantR [60]) (t := ()) (k := fun _ r1 => (listsR (3 - (n + 1)) (n + 1) r1).bind (tyEnd p)) got_unit]
  show _ = (wantR [60] r.tail).bind _
  cases wantR [60] r.tail <;> rfl
theorem lists_none {st : Sto} {n p : Nat} (h : isS 1 wList st = false) : st.rd (fun r1 => (listsR (3 - n) n r1).bind (tyEnd p)) = st.rd (tyEnd p n) := by
  cases st with
  | fell c p => rfl
  | go r =>
    show (listsR (3 - n) n r).bind (tyEnd p) = tyEnd p n r
    rw [lists_stop h]
    rfl
def DTyAt (P g c : Nat) (l : List Tok) (w : World) (T p : Nat) (X : Res RTy) (wr : World) : Prop :=
  ∃ (n : Nat) (st1 : Sto), n ≤ 3 ∧ DpS wr P g c l st1 ∧ wr.heap[T]? = some (.cells #[.string ByteArray.empty, .int .i64 n, .int .i64 p] 133 (0, 0)) ∧
    wr.heap[w.heap.size]? = some (.cells #[.string ByteArray.empty, .int .i64 0, .int .i64 0] 133 (0, 0)) ∧ Exc P w.heap.size w wr ∧ X = st1.rd (fun r1 => (listsR (3 - n) n r1).bind (tyEnd p))
def DCloseAt (P g c : Nat) (l : List Tok) (w : World) (T n p : Nat) (t : Tok) (X : Res RTy) (i : Value) (wr : World) : Prop :=
  ∃ (k : Nat) (st1 : Sto), i = .int .i64 k ∧ k ≤ n ∧ DpS wr P g c l st1 ∧ wr.heap[T]? = some (.cells #[.string (strOfNums t.text), .int .i64 n, .int .i64 p] 133 (0, 0)) ∧
    wr.heap[w.heap.size]? = some (.cells #[.string ByteArray.empty, .int .i64 0, .int .i64 0] 133 (0, 0)) ∧ Exc P w.heap.size w wr ∧ X = st1.rd (tyTail t n p (n - k))
set_option maxRecDepth 100000 in
set_option maxHeartbeats 2000000 in
theorem dkind_any (w : World) (P g c : Nat) (l : List Tok) (st : Sto) (h : DpS w P g c l st) :
    Calls Tryz.prog 81 #[.pointer (some ⟨P, 0, none⟩)] w (PostD tyV P g c l w st tyR) := by
  have HB0 := Lib.hid (heap_alloc_new w (.cells #[.string ByteArray.empty, .int .i64 0, .int .i64 0] 133))
  have hbA : Below w.heap.size w (w.alloc (.cells #[.string ByteArray.empty, .int .i64 0, .int .i64 0] 133)) := (Below.refl _ _).alloc (Nat.le_refl _) _
  have HBA := Lib.hid hbA
  have HD := Lib.hid (h.keep hbA)
  have HH := Lib.hid (dhere_st _ P g c l st HD.out)
  obtain ⟨hP, hg, hgP⟩ := h.facts
  have hf := fld2
  clear h hbA
  unfold tokV at HH
  go_enter Tryz.func81, Tryz.ntmps81
  go_wp2_with fail
  refine HH.out.mono ?_
  rintro e W1 ⟨u, rfl, hb1, hu⟩
  have HB1 := Lib.hid (HBA.out.trans (hb1.mono HBA.out.size))
  have HD1 := Lib.hid (HD.out.keep hb1)
  have HZ1 := Lib.hid (blk_below HB0.out hb1 (by simp))
  have hT : w.heap.size < W1.heap.size := blk_lt HZ1.out
  have HTY : Hid (st.rd tyR = st.rd (fun r1 => (listsR (3 - 0) 0 r1).bind (tyEnd u.place))) := Lib.hid (by
    cases st with
    | fell c p => rfl
    | go r => rw [hu r rfl]; rfl)
  clear hb1 hu
  go_wp2_with fail
  have hbT : Below W1.heap.size W1 (W1.alloc (.cells #[.string ⟨#[]⟩, .int .i64 0, .int .i64 u.place] 133)) := (Below.refl _ _).alloc (Nat.le_refl _) _
  have HRD := Lib.hid (HD1.out.keep hbT)
  have HX := Lib.hid ((Exc.of_below (R := P) HB1.out).thenB (Nat.le_refl _) (.of_below hbT))
  have HZ := Lib.hid (blk_below HZ1.out hbT hT)
  have HT := Lib.hid (heap_alloc_new W1 (.cells #[.string ⟨#[]⟩, .int .i64 0, .int .i64 u.place] 133))
  clear hbT hf HH HD HD1 HB0 HBA HB1 HZ1
  generalize (W1.alloc (.cells #[.string ⟨#[]⟩, .int .i64 0, .int .i64 u.place] 133)) = W2 at *
  generalize W1.heap.size = T at *
  generalize u.place = p at *
  generalize hXX : st.rd tyR = X at *
  have HXX := Lib.hid hXX
  clear hXX
  go_loopw [] (fun wr => DTyAt P g c l w T p X wr) (fun wr => 3 - numOf (wr.cell? ⟨T, 1, none⟩))
  case atStart => exact ⟨0, st, by decide, HRD.out, HT.out, HZ.out, HX.out, HTY.out⟩
  case round =>
    clear HRD HX HZ HT HTY
    obtain ⟨n, st1, hn, hrd, ht, hz, hx, heq⟩ := hrel
    have HRD := Lib.hid hrd
    have HT := Lib.hid ht
    have HTm := Lib.hid ht
    have HZ := Lib.hid hz
    have HX := Lib.hid hx
    have HEQ := Lib.hid heq
    clear hrd ht hz hx heq
    go_wp2_with fail
    refine (dis_any _ P g c l st1 1 ⟨#[108, 105, 115, 116]⟩ wList (by kernel_rfl) HRD.out).mono ?_
    rintro e W3 ⟨rfl, hb3⟩
    have HR3 := Lib.hid (HRD.out.keep hb3)
    have HT3 := Lib.hid (blk_below HT.out hb3 (blk_lt HT.out))
    have HZ3 := Lib.hid (blk_below HZ.out hb3 (blk_lt HZ.out))
    have HX3 := Lib.hid (HX.out.bel (Nat.le_refl _) hb3)
    clear hb3 HRD HT HZ HX
    generalize hi : isS 1 wList st1 = b
    have HI := Lib.hid hi
    clear hi
    cases b
    · have HE := Lib.hid (HEQ.out.trans (lists_none HI.out))
      clear HEQ
      go_wp2_with fail
      refine (dname_any _ P g c l st1 false HR3.out).mono ?_
      rintro e W4 ⟨a, rfl, hr4, hx4, hs4⟩
      have HR4 : Hid (DpS W4 P g c l (st1.step nameR)) := Lib.hid hr4
      have HX4 := Lib.hid (HX3.out.thenB (Nat.le_refl _) hx4)
      have HZ4 := Lib.hid (blk_exc HZ3.out hx4 (blk_lt HZ3.out) (by omega))
      have HT4 := Lib.hid (blk_exc HT3.out hx4 (blk_lt HT3.out) (by omega))
      have HE2 := Lib.hid (HE.out.trans (tyEnd_got (t := a) (n := n) (p := p) hs4))
      clear hr4 hx4 hs4 HR3 HX3 HZ3 HT3 HE HI HTm
      generalize st1.step nameR = st2 at *
      unfold tokV
      obtain ⟨hT', t0, t1, t2, u0, u1, u2⟩ := blk3 HT4.out
      have hsz4 : T < W4.heap.size := hT'
      go_wp2_with fail
      go_loopw [5] (fun i wr => DCloseAt P g c l w T n p a X i wr) (fun i _ => n - (intOf i).toNat)
      case atStart => exact ⟨0, st2, rfl, Nat.zero_le _, (HR4.out.set1 (by omega) (by omega) _ _).alloc _, blk_alloc ((blk_set HT4.out 0 _).trans rfl) _, blk_alloc (blk_set_ne HZ4.out (by simp only; omega) _) _, (HX4.out.set1 (by omega) _ _).alloc (by simp [World.setCell]; omega) _, HE2.out⟩
      case round =>
        clear t0 t1 t2 u0 u1 u2 HR4 HX4 HZ4 HT4
        obtain ⟨k, st3, rfl, hk, hr5, ht5, hz5, hx5, he5⟩ := hrel
        have HR5 := Lib.hid hr5
        have HT5 := Lib.hid ht5
        have HZ5 := Lib.hid hz5
        have HX5 := Lib.hid hx5
        have HE5 := Lib.hid he5
        obtain ⟨_, t0, t1, t2, u0, u1, u2⟩ := blk3 ht5
        clear hr5 ht5 hz5 hx5 he5
        by_cases hkn : k < n
        · have HE6 := Lib.hid (HE5.out.trans (tail_step hkn))
          clear HE5
          go_wp2_with fail
          refine (dwant_any _ P g c l st3 ⟨#[62]⟩ [62] (by kernel_rfl) HR5.out).mono ?_
          rintro e W6 ⟨rfl, hr6, hx6⟩
          have HR6 := Lib.hid hr6
          have HX6 := Lib.hid (HX5.out.thenB (Nat.le_refl _) hx6)
          have HZ6 := Lib.hid (blk_exc HZ5.out hx6 (blk_lt HZ5.out) (by omega))
          have HT6 := Lib.hid (blk_exc HT5.out hx6 (blk_lt HT5.out) (by omega))
          clear hr6 hx6 HR5 HX5 HZ5 HT5 t0 t1 t2 u0 u1 u2
          go_wp2
          go_roundw
          case rel => exact ⟨k + 1, _, by go_num, hkn, HR6.out, HT6.out, HZ6.out, HX6.out, HE6.out⟩
          case measure => simp [intOf]; omega
        · have hkn' : k = n := by omega
          subst hkn'
          have HE6 := Lib.hid (step_of (a := ⟨a.text, k, p⟩) ((HXX.out.trans HE5.out).trans (by rw [Nat.sub_self]; rfl)))
          obtain ⟨_, z0, z1, z2, y0, y1, y2⟩ := blk3 HZ5.out
          go_wp2
          refine post_gen (fun Wf => Wf.heap[w.heap.size]? = some (.cells #[.string (strOfNums a.text), .int .i64 k, .int .i64 p] 133 (0, 0)) ∧ Exc P w.heap.size w Wf ∧ DpS Wf P g c l st3) ⟨?_, ?_, ?_⟩ ?_
          · exact blk_set3 HZ5.out _ _ _
          · exact HX5.out.set3 (Nat.le_refl _) _ _ _
          · exact HR5.out.set3 (by omega) (by omega) _ _ _
          · rintro Wf ⟨f1, f2, f3⟩
            obtain ⟨_, c0, c1, c2, _⟩ := blk3 f1
            exact bodyPost_ret (v := .agg #[.string (strOfNums a.text), .int .i64 k, .int .i64 p]) (by simp [results, Tryz.results81, go_sem, c0, c1, c2]) rfl ⟨⟨a.text, k, p⟩, rfl, by rw [HE6.out.1]; exact f3, f2, HE6.out.2⟩
    · obtain ⟨r1, rfl⟩ : ∃ r1, st1 = .go r1 := by
        have := HI.out
        cases st1 with
        | go r => exact ⟨r, rfl⟩
        | fell c p => cases this
      have HI' : Hid (isT 1 wList r1 = true) := Lib.hid HI.out
      obtain ⟨hT', t0, t1, t2, u0, u1, u2⟩ := blk3 HT3.out
      by_cases hn3 : n = 3
      · subst hn3
        have HE := Lib.hid (step_bad (c := 16) (p := (hd r1).place) ((HXX.out.trans HEQ.out).trans (by
          show (listsR (3 - 3) 3 r1).bind (tyEnd p) = _
          rw [lists_many HI'.out]
          rfl)) (⟨[], 3, p⟩ : RTy))
        have HB := Lib.hid (dbad_any W3 P g c l (.go r1) 16 (by decide) HR3.out)
        go_wp2_with fail
        refine HB.out.mono ?_
        rintro e W4 ⟨rfl, hr4, hx4⟩
        have HR4 := Lib.hid hr4
        have HX4 := Lib.hid (HX3.out.thenB (Nat.le_refl _) hx4)
        have HZ4 := Lib.hid (blk_exc HZ3.out hx4 (blk_lt HZ3.out) (by omega))
        have HT4 := Lib.hid (blk_exc HT3.out hx4 (blk_lt HT3.out) (by omega))
        clear hr4 hx4 t0 t1 t2 u0 u1 u2 HT3 HR3 HX3 HZ3
        obtain ⟨_, t0, t1, t2, u0, u1, u2⟩ := blk3 HT4.out
        obtain ⟨_, z0, z1, z2, y0, y1, y2⟩ := blk3 HZ4.out
        go_wp2
        refine post_gen (fun Wf => Wf.heap[w.heap.size]? = some (.cells #[.string ByteArray.empty, .int .i64 (3 : Nat), .int .i64 p] 133 (0, 0)) ∧ Exc P w.heap.size w Wf ∧ DpS Wf P g c l (badS 16 (.go r1))) ⟨?_, ?_, ?_⟩ ?_
        · exact blk_set3 HZ4.out _ _ _
        · exact HX4.out.set3 (Nat.le_refl _) _ _ _
        · exact HR4.out.set3 (by omega) (by omega) _ _ _
        · rintro Wf ⟨f1, f2, f3⟩
          obtain ⟨_, c0, c1, c2, _⟩ := blk3 f1
          exact bodyPost_ret (v := .agg #[.string ByteArray.empty, .int .i64 (3 : Nat), .int .i64 p]) (by simp [results, Tryz.results81, go_sem, c0, c1, c2]) rfl ⟨⟨[], 3, p⟩, rfl, by rw [HE.out.1]; exact f3, f2, HE.out.2⟩
      · have hn3' : n < 3 := by omega
        have HE := Lib.hid (HEQ.out.trans (lists_got hn3' rfl HI'.out))
        have HK := Lib.hid (show (hd r1).kind ≠ 0 by rw [(isT_kind HI'.out).1]; decide)
        have t3 : ((n : Int) == 3) = false := by simp; omega
        have HR4 : Hid (Dp (W3.setCell ⟨T, 1, none⟩ (.int .i64 ((n : Int) + 1))) P g c l r1 (0, 0)) := Lib.hid (HR3.out.set1 (X := T) (st := .go r1) (by omega) (by omega) 1 _)
        have HT4 : Hid ((W3.setCell ⟨T, 1, none⟩ (.int .i64 ((n : Int) + 1))).heap[T]? = some (.cells #[.string ByteArray.empty, .int .i64 ((n : Int) + 1), .int .i64 p] 133 (0, 0))) := Lib.hid ((blk_set HT3.out 1 _).trans rfl)
        have HZ4 := Lib.hid (blk_set_ne (p := ⟨T, 1, none⟩) HZ3.out (by simp only; omega) (.int .i64 ((n : Int) + 1)))
        have HX4 := Lib.hid (HX3.out.set1 (g := T) (by omega) 1 (.int .i64 ((n : Int) + 1)))
        go_upto_region 7 with (fail)
        generalize W3.setCell ⟨T, 1, none⟩ (.int .i64 ((n : Int) + 1)) = W4 at *
        clear t0 t1 t2 u0 u1 u2 t3
        obtain ⟨_, r0, ra, rb, rc, s1, s2, s3⟩ := blk4 HR4.out.blk
        have hfew := HR4.out.few
        have hlen := HR4.out.len
        have HR5 := Lib.hid (dp_next HR4.out HK.out)
        have hx5 : Exc P W4.heap.size W4 (W4.setCell ⟨P, 1, none⟩ (.int .i64 (((l.length - r1.length : Nat) : Int) + 1))) := exc_set _ _ _ _
        have HX5 := Lib.hid (HX4.out.thenB (Nat.le_refl _) hx5)
        have HZ5 := Lib.hid (blk_exc HZ4.out hx5 (blk_lt HZ4.out) (by omega))
        have HT5 := Lib.hid (blk_exc HT4.out hx5 (blk_lt HT4.out) (by omega))
        clear hx5
        go_wp2_with fail
        refine (dwant_any _ P g c l (.go r1.tail) ⟨#[60]⟩ [60] (by kernel_rfl) HR5.out).mono ?_
        rintro e W6 ⟨rfl, hr6, hx6⟩
        have HR6 := Lib.hid hr6
        have HX6 := Lib.hid (HX5.out.thenB (Nat.le_refl _) hx6)
        have HZ6 := Lib.hid (blk_exc HZ5.out hx6 (blk_lt HZ5.out) (by omega))
        have HT6 := Lib.hid (blk_exc HT5.out hx6 (blk_lt HT5.out) (by omega))
        clear hr6 hx6
        go_wp2
        go_roundw
        case rel => exact ⟨n + 1, _, by omega, HR6.out, HT6.out, HZ6.out, HX6.out, HE.out⟩
        case measure =>
          rw [(blk3 HT6.out).2.2.1, (blk3 HTm.out).2.2.1]
          simp [numOf]
          omega
end Go.Proofs.YtleclhnlojalbaaGreatDoor
namespace Go.Proofs.YtleclhnlojalbaaGreatDoor
open Go.ChangeShapes Go.WideShapes Go.ChangeAt Go.RowKit Go.Shelf

def codeOf : Option Value → Int
  | some (.int _ n) => n
  | _ => 0
def dpM (l : List Tok) (P : Nat) (w : World) : Nat := if codeOf (w.cell? ⟨P, 2, none⟩) = 0 then l.length + 1 - numOf (w.cell? ⟨P, 1, none⟩) else 0
def Sto.more : Sto → Nat
  | .go r => r.length + 1
  | .fell _ _ => 0
def Sto.left : Sto → Nat
  | .go r => r.length
  | .fell _ _ => 0
theorem dpM_more {w : World} {P g c : Nat} {l : List Tok} {st : Sto} (h : DpS w P g c l st) : dpM l P w = st.more := by
  cases st with
  | go r =>
    have hd' : Dp w P g c l r (0, 0) := h
    obtain ⟨_, r0, r1, r2, _⟩ := blk4 hd'.blk
    have := hd'.len
    unfold dpM
    rw [r2, r1]
    simp [codeOf, numOf, Sto.more]
    omega
  | fell c' p =>
    obtain ⟨h0, r, hd'⟩ := h
    obtain ⟨_, r0, r1, r2, _⟩ := blk4 hd'.blk
    unfold dpM
    rw [r2]
    simp [codeOf, Sto.more, h0]
theorem step_left {α : Type} {f : List Tok → Res α} {r : List Tok} (h : Eats r (f r)) (h1 : 1 ≤ r.length) : ((Sto.go r).step f).left + 1 ≤ r.length := by
  generalize hq : f r = q
  cases q with
  | ok a r' =>
    rw [step_ok hq]
    exact (h a r' hq).2
  | no c p =>
    rw [step_no hq]
    exact h1
theorem more_left {st : Sto} {r : List Tok} (h : st.left + 1 ≤ r.length) : st.more < (Sto.go r).more := by
  cases st with
  | go r' => simp only [Sto.left] at h; simp only [Sto.more]; omega
  | fell c p => simp only [Sto.more]; omega
theorem stp_leaves {α : Type} {st : Sto} {f : List Tok → Res α} (h : ∀ r, st = .go r → Keeps r (f r)) : (st.step f).left ≤ st.left := by
  cases st with
  | fell c p => exact Nat.le_refl _
  | go r =>
    generalize hq : f r = q
    cases q with
    | ok a r' =>
      rw [step_ok hq]
      exact ((h r rfl) a r' hq).2
    | no c p =>
      rw [step_no hq]
      exact Nat.zero_le _
theorem DpS.ends {w : World} {P g c : Nat} {l : List Tok} {r : List Tok} (h : DpS w P g c l (.go r)) : Ends r := Dp.ends h
theorem is_word {k : Int} {s : List Int} {st : Sto} (h : isS k s st = true) : ∃ r, st = .go r ∧ isT k s r = true := by
  cases st with
  | go r => exact ⟨r, rfl, h⟩
  | fell c p => cases h
theorem comma_takes {r : List Tok} (h : isT 4 [44] r = true) : (Sto.go r).step commaR = .go r.tail := by
  have h1 : isT 4 [125] r = false := by
    have := (isT_kind h).2
    unfold isT
    rw [this]
    simp
  exact step_ok (a := ()) (by unfold commaR wantR; rw [if_neg (by rw [h1]; decide), if_pos h])
theorem comma_brace {r : List Tok} (h : isT 4 [125] r = true) : (Sto.go r).step commaR = .go r :=
  step_ok (a := ()) (by unfold commaR; rw [if_pos h])
theorem comma_bad {st : Sto} (h : isS 4 [44] st = false) (h1 : isS 4 [125] st = false) : st.step commaR = badS 11 st := by
  cases st with
  | fell c p => rfl
  | go r =>
    have h' : isT 4 [44] r = false := h
    have h1' : isT 4 [125] r = false := h1
    exact step_no (c := 11) (p := (hd r).place) (by unfold commaR wantR; rw [if_neg (by rw [h1']; decide), if_neg (by rw [h']; decide)]; rfl)
def choTail (t : Tok) (acc : List Tok) (r : List Tok) : Res RCho := (namesL acc r).bind fun ns r3 => .ok ⟨t.text, t.place, ns⟩ r3
theorem cho_round {t a : Tok} {acc r : List Tok} (he : Ends r) (hb : isT 4 [125] r = false) (h : Got (.go r) nameR a) : (Sto.go r).rd (choTail t acc) = (((Sto.go r).step nameR).step commaR).rd (choTail t (acc ++ [a])) := by
  have e : (Sto.go r).rd (choTail t acc) = (Sto.go r).rd (fun r => (nameR r).bind fun a r1 => (commaR r1).bind fun _ r2 => choTail t (acc ++ [a]) r2) := by
    show choTail t acc r = (nameR r).bind fun a r1 => (commaR r1).bind fun _ r2 => choTail t (acc ++ [a]) r2
    unfold choTail
    rw [namesL_step2 he, if_neg (by rw [hb]; decide)]
    unfold valueNR
    cases nameR r with
    | no c p => rfl
    | ok t1 r1 =>
      simp only [bind_ok]
      cases commaR r1 with
      | no c p => rfl
      | ok b r2 => rfl
  rw [e, got_rd (k := fun (a : Tok) r1 => (commaR r1).bind fun _ r2 => choTail t (acc ++ [a]) r2) h]
  exact got_rd (k := fun (_ : Unit) r2 => choTail t (acc ++ [a]) r2) got_unit
theorem cho_start {st : Sto} {t : Tok} (h : Got st nameR t) : st.rd choR = ((st.step nameR).step (wantR [123])).rd (choTail t []) := by
  have e : choR = fun r => (nameR r).bind fun t r1 => (wantR [123] r1).bind fun _ r2 => choTail t [] r2 := by
    funext r
    unfold choR choTail
    rfl
  rw [e, got_rd (k := fun (t : Tok) r1 => (wantR [123] r1).bind fun _ r2 => choTail t [] r2) h]
  exact got_rd (k := fun (_ : Unit) r2 => choTail t [] r2) got_unit
theorem cho_stop {t : Tok} {acc r : List Tok} (he : Ends r) (h : isT 4 [125] r = true) : (Sto.go r).rd (choTail t acc) = (Sto.go r.tail).rd (fun r => .ok ⟨t.text, t.place, acc⟩ r) := by
  show (namesL acc r).bind _ = _
  rw [namesL_step2 he, if_pos h]
  rfl
def DChoAt (P g c : Nat) (l : List Tok) (w : World) (O : Nat) (t : Tok) (X : Res RCho) (wr : World) : Prop :=
  ∃ (acc : List Tok) (st1 : Sto) (v : Value), DpS wr P g c l st1 ∧ wr.heap[O]? = some (.cells #[.string (strOfNums t.text), .int .i64 t.place, v] 117 (0, 0)) ∧ wr.ownsRow (O + 1) 109 3 v acc.length (toksCells acc) ∧
    wr.heap[w.heap.size]? = some (.cells #[.string ByteArray.empty, .int .i64 0, .slice none 0 0] 117 (0, 0)) ∧ Exc P w.heap.size w wr ∧ acc.length + st1.left ≤ l.length ∧ X = st1.rd (choTail t acc)
end Go.Proofs.YtleclhnlojalbaaGreatDoor
namespace Go.Proofs.YtleclhnlojalbaaGreatDoor
open Go.ChangeShapes Go.WideShapes Go.ChangeAt Go.RowKit Go.Shelf

def DChoPost (P g c : Nat) (l : List Tok) (w : World) (st : Sto) (e : Ending) (w' : World) : Prop :=
  ∃ (s : RCho) (v : Value), e = .returned (.agg #[.string (strOfNums s.name), .int .i64 s.place, v]) ∧ w'.ownsRow w.heap.size 109 3 v s.names.length (toksCells s.names) ∧ DpS w' P g c l (st.step choR) ∧ Exc P w.heap.size w w' ∧ Got st choR s
theorem ownsRow_set3 {w : World} {base : Nat} {e : TypeId} {size : Nat} {v : Value} {n : Nat} {xs : List Value} (h : w.ownsRow base e size v n xs) {Z : Nat} (hZ : Z < base) (x y z : Value) : (((w.setCell ⟨Z, 0, none⟩ x).setCell ⟨Z, 1, none⟩ y).setCell ⟨Z, 2, none⟩ z).ownsRow base e size v n xs :=
  ownsRow_setCell_below (ownsRow_setCell_below (ownsRow_setCell_below h (a := ⟨Z, 0, none⟩) hZ x) (a := ⟨Z, 1, none⟩) hZ y) (a := ⟨Z, 2, none⟩) hZ z
set_option maxRecDepth 100000 in
set_option maxHeartbeats 4000000 in
theorem dchoice_any (w : World) (P g c : Nat) (l : List Tok) (st : Sto) (h : DpS w P g c l st) :
    Calls Tryz.prog 53 #[.pointer (some ⟨P, 0, none⟩)] w (DChoPost P g c l w st) := by
  have HZ0 := Lib.hid (heap_alloc_new w (.cells #[.string ⟨#[]⟩, .int .i64 0, .slice none 0 0] 117))
  have hbA : Below w.heap.size w (w.alloc (.cells #[.string ⟨#[]⟩, .int .i64 0, .slice none 0 0] 117)) := (Below.refl _ _).alloc (Nat.le_refl _) _
  have HXA := Lib.hid (Exc.of_below (R := P) hbA)
  have HD := Lib.hid (h.keep hbA)
  obtain ⟨hP, hg, hgP⟩ := h.facts
  have hll : l.length ≤ 2048 := by obtain ⟨r, F, hd', _⟩ := h.form; exact hd'.few
  obtain ⟨i0, hi0, hz0, hz1, hz2⟩ := info_parts tok_info
  have I1 := Lib.hid hi0
  have I2 := Lib.hid hz0
  have I3 := Lib.hid hz1
  have I4 := Lib.hid hz2
  have hA : w.heap.size < (w.alloc (.cells #[.string ⟨#[]⟩, .int .i64 0, .slice none 0 0] 117)).heap.size := by simp
  have HST := Lib.hid h
  clear h hbA hi0 hz0 hz1 hz2
  go_enter Tryz.func53, Tryz.ntmps53
  go_upto_region 1 with (fail)
  generalize w.alloc (.cells #[.string ⟨#[]⟩, .int .i64 0, .slice none 0 0] 117) = W0 at *
  go_wp2_with fail
  refine (dname_any _ P g c l st false HD.out).mono ?_
  rintro e W1 ⟨a, rfl, hr1, hx1, hs1⟩
  have hW1 : W0.heap.size ≤ W1.heap.size := hx1.size
  have HR1 : Hid (DpS W1 P g c l (st.step nameR)) := Lib.hid hr1
  have HX1 := Lib.hid (HXA.out.thenB (Nat.le_refl _) hx1)
  have HZ1 := Lib.hid (blk_exc HZ0.out hx1 hA (by omega))
  have HXX := Lib.hid (cho_start (t := a) hs1)
  have HL : Hid ((st.step nameR).left ≤ l.length) := Lib.hid (by
    obtain ⟨r, F, hd', hf'⟩ := hr1.form
    have e1 : st.step (nmR false) = st.step nameR := rfl
    rw [e1] at hf'
    rcases hf' with ⟨hf', _⟩ | ⟨hf', _⟩
    · rw [hf']; exact hd'.len
    · rw [hf']; exact Nat.zero_le _)
  clear hr1 hx1 hs1 HD HXA HZ0
  unfold tokV
  go_upto_region 2 with (fail)
  have HR2 := Lib.hid (HR1.out.alloc (.cells #[.int .i64 a.kind, .string (strOfNums a.text), .int .i64 a.place] 109))
  have HX2 := Lib.hid (HX1.out.alloc HX1.out.size (.cells #[.int .i64 a.kind, .string (strOfNums a.text), .int .i64 a.place] 109))
  have HZ2 := Lib.hid (blk_alloc HZ1.out (.cells #[.int .i64 a.kind, .string (strOfNums a.text), .int .i64 a.place] 109))
  have HT2 := Lib.hid (heap_alloc_new W1 (.cells #[.int .i64 a.kind, .string (strOfNums a.text), .int .i64 a.place] 109))
  have hs2 : W1.heap.size + 1 ≤ (W1.alloc (.cells #[.int .i64 a.kind, .string (strOfNums a.text), .int .i64 a.place] 109)).heap.size := Nat.le_of_eq (World.size_alloc ..).symm
  clear HR1 HX1 HZ1
  generalize hW2 : W1.alloc (.cells #[.int .i64 a.kind, .string (strOfNums a.text), .int .i64 a.place] 109) = W2 at *
  clear hW2
  generalize hBT : W1.heap.size = BT at *
  clear hBT
  obtain ⟨_, x0, x1, x2, _⟩ := blk3 HT2.out
  go_upto_region 3 with (fail)
  have HR3 := Lib.hid (HR2.out.alloc (.cells #[.string (strOfNums a.text), .int .i64 a.place, .slice none 0 0] 117))
  have HX3 := Lib.hid (HX2.out.alloc HX2.out.size (.cells #[.string (strOfNums a.text), .int .i64 a.place, .slice none 0 0] 117))
  have HZ3 := Lib.hid (blk_alloc HZ2.out (.cells #[.string (strOfNums a.text), .int .i64 a.place, .slice none 0 0] 117))
  have HO3 := Lib.hid (heap_alloc_new W2 (.cells #[.string (strOfNums a.text), .int .i64 a.place, .slice none 0 0] 117))
  have hs3 : W2.heap.size + 1 ≤ (W2.alloc (.cells #[.string (strOfNums a.text), .int .i64 a.place, .slice none 0 0] 117)).heap.size := Nat.le_of_eq (World.size_alloc ..).symm
  clear HR2 HX2 HZ2 HT2 x0 x1 x2
  generalize hW3 : W2.alloc (.cells #[.string (strOfNums a.text), .int .i64 a.place, .slice none 0 0] 117) = W3 at *
  clear hW3
  generalize hO : W2.heap.size = O at *
  clear hO
  generalize st.step nameR = st1 at *
  go_wp2_with fail
  refine (dwant_any _ P g c l st1 ⟨#[123]⟩ [123] (by kernel_rfl) HR3.out).mono ?_
  rintro e W4 ⟨rfl, hr4, hx4⟩
  have HR4 := Lib.hid hr4
  have HX4 := Lib.hid (HX3.out.thenB (Nat.le_refl _) hx4)
  have HZ4 := Lib.hid (blk_exc HZ3.out hx4 (blk_lt HZ3.out) (by omega))
  have HO4 := Lib.hid (blk_exc HO3.out hx4 (blk_lt HO3.out) (by omega))
  have HL4 := Lib.hid (Nat.le_trans (stp_leaves (f := wantR [123]) (st := st1) (fun r e => (want_eats (s := [123]) (by subst e; exact HR3.out.ends)).keeps)) HL.out)
  clear hr4 hx4 HR3 HX3 HZ3 HO3 HL
  generalize st1.step (wantR [123]) = st2 at *
  generalize hX : st.rd choR = X at *
  have HX' := Lib.hid hX
  clear hX
  go_wp2_with fail
  go_loopw [] (fun wr => DChoAt P g c l w O a X wr) (fun wr => dpM l P wr)
  case atStart => exact ⟨[], st2, .slice none 0 0, HR4.out, HO4.out, World.ownsRow_nil _ _ _ _, HZ4.out, HX4.out, by simpa using HL4.out, HXX.out⟩
  case round =>
    clear HR4 HX4 HZ4 HO4 HL4 HXX
    obtain ⟨acc, st3, v, hr, ho, hrow, hz, hx, hn, heq⟩ := hrel
    have hOw : O < wr.heap.size := blk_lt ho
    have HM := Lib.hid (dpM_more hr)
    have HR := Lib.hid hr
    have HO := Lib.hid ho
    have HROW := Lib.hid hrow
    have HZ := Lib.hid hz
    have HX := Lib.hid hx
    have HEQ := Lib.hid heq
    clear hr ho hrow hz hx heq
    cases st3 with
    | fell cc pp =>
      obtain ⟨h0, r, hd'⟩ := HR.out
      obtain ⟨_, r0, r1, r2, r3, _⟩ := blk4 hd'.blk
      simp only at r2 r3
      have t0 : (cc == 0) = false := by simp [h0]
      have H0 := Lib.hid h0
      have HE := Lib.hid (step_bad (c := cc) (p := pp) (HX'.out.trans HEQ.out) (⟨a.text, a.place, acc⟩ : RCho))
      obtain ⟨va, vc, rfl⟩ := ownsRow_form HROW.out
      obtain ⟨_, o0, o1, o2, _⟩ := blk3 HO.out
      obtain ⟨_, z0, z1, z2, y0, y1, y2⟩ := blk3 HZ.out
      clear h0 hd'
      go_wp2
      refine post_gen (fun Wf => Wf.heap[w.heap.size]? = some (.cells #[.string (strOfNums a.text), .int .i64 a.place, .slice va acc.length vc] 117 (0, 0)) ∧ Wf.ownsRow w.heap.size 109 3 (.slice va acc.length vc) acc.length (toksCells acc) ∧ Exc P w.heap.size w Wf ∧ DpS Wf P g c l (.fell cc pp)) ⟨?_, ?_, ?_, ?_⟩ ?_
      · exact blk_set3 HZ.out _ _ _
      · exact ownsRow_base (ownsRow_set3 HROW.out (by omega) _ _ _) (by omega)
      · exact HX.out.set3 (Nat.le_refl _) _ _ _
      · exact HR.out.set3 (by omega) (by omega) _ _ _
      · rintro Wf ⟨f1, f2, f3, f4⟩
        obtain ⟨_, c0, c1, c2, _⟩ := blk3 f1
        exact bodyPost_ret (v := .agg #[.string (strOfNums a.text), .int .i64 a.place, .slice va acc.length vc]) (by simp [results, Tryz.results53, go_sem, c0, c1, c2]) rfl ⟨⟨a.text, a.place, acc⟩, _, rfl, f2, by rw [HE.out.1]; exact f4, f3, HE.out.2⟩
    | go r =>
      have HIS := Lib.hid (dis_any wr P g c l (.go r) 4 ⟨#[125]⟩ [125] (by kernel_rfl) HR.out)
      have HEND := Lib.hid (show Ends r from HR.out.ends)
      obtain ⟨_, r0, r1, r2, r3, _⟩ := blk4 (show Dp wr P g c l r (0, 0) from HR.out).blk
      simp only at r2 r3
      go_wp2_with fail
      refine HIS.out.mono ?_
      rintro e W5 ⟨rfl, hb5⟩
      clear r0 r1 r2 r3
      have HR5 := Lib.hid (HR.out.keep hb5)
      have HO5 := Lib.hid (blk_below HO.out hb5 hOw)
      have HROW5 := Lib.hid (exc_row HROW.out (by omega : P < O) (.of_below hb5))
      have HZ5 := Lib.hid (blk_below HZ.out hb5 (by omega))
      have HX5 := Lib.hid (HX.out.bel (Nat.le_refl _) hb5)
      have hO5 : O < W5.heap.size := Nat.lt_of_lt_of_le hOw hb5.size
      clear hb5 HR HO HROW HZ HX HIS
      generalize hi : isS 4 [125] (.go r) = b
      have HI := Lib.hid (show isT 4 [125] r = b from hi)
      clear hi
      cases b
      · have HE0 := Lib.hid (fun t : Tok => cho_round (t := a) (a := t) (acc := acc) HEND.out HI.out)
        have HEAT := Lib.hid (step_left (name_eats HEND.out) (by rw [HEND.out.len]; omega))
        go_wp2_with fail
        refine (dname_any _ P g c l (.go r) false HR5.out).mono ?_
        rintro e W6 ⟨t, rfl, hr6, hx6, hs6⟩
        have HR6 : Hid (DpS W6 P g c l ((Sto.go r).step nameR)) := Lib.hid hr6
        have HX6 := Lib.hid (HX5.out.thenB (Nat.le_refl _) hx6)
        have HZ6 := Lib.hid (blk_exc HZ5.out hx6 (blk_lt HZ5.out) (by omega))
        have HO6 := Lib.hid (blk_exc HO5.out hx6 (blk_lt HO5.out) (by omega))
        have HROW6 := Lib.hid (exc_row HROW5.out (by omega : P < O) hx6)
        have hO6 : O < W6.heap.size := blk_lt HO6.out
        have HE1 := Lib.hid (HEQ.out.trans (HE0.out t hs6))
        clear hr6 hx6 hs6 HR5 HX5 HZ5 HO5 HROW5 HE0 HEQ
        generalize (Sto.go r).step nameR = st4 at *
        unfold tokV
        go_upto_region 6 with (fail)
        have HR7 := Lib.hid (HR6.out.alloc (.cells #[.int .i64 t.kind, .string (strOfNums t.text), .int .i64 t.place] 109))
        have HX7 := Lib.hid (HX6.out.alloc HX6.out.size (.cells #[.int .i64 t.kind, .string (strOfNums t.text), .int .i64 t.place] 109))
        have HZ7 := Lib.hid (blk_alloc HZ6.out (.cells #[.int .i64 t.kind, .string (strOfNums t.text), .int .i64 t.place] 109))
        have HO7 := Lib.hid (blk_alloc HO6.out (.cells #[.int .i64 t.kind, .string (strOfNums t.text), .int .i64 t.place] 109))
        have HF7 := Lib.hid (heap_alloc_new W6 (.cells #[.int .i64 t.kind, .string (strOfNums t.text), .int .i64 t.place] 109))
        have HROW7 := Lib.hid (exc_row HROW6.out (by omega : P < O) ((Exc.refl _ _ _).alloc (Nat.le_refl _) (.cells #[.int .i64 t.kind, .string (strOfNums t.text), .int .i64 t.place] 109)))
        clear HR6 HX6 HZ6 HO6 HROW6
        generalize hW7 : W6.alloc (.cells #[.int .i64 t.kind, .string (strOfNums t.text), .int .i64 t.place] 109) = W7 at *
        clear hW7
        generalize W6.heap.size = BF at *
        obtain ⟨hf2, f0, f1, f2, _⟩ := blk3 HF7.out
        obtain ⟨va, vc, rfl⟩ := ownsRow_form HROW7.out
        obtain ⟨_, o0, o1, o2, q0, q1, q2⟩ := blk3 HO7.out
        have hacc : acc.length ≤ 2048 := by omega
        go_upto_region 7 with (at_builtin; refine wpList_append_own _ rfl (.tmp 28) (.tmp 30) 67 rfl (O + 1) 109 i0 _ 3 32 Tryz.underlying67 I1.out I2.out I3.out I4.out rfl (by decide) _ acc.length (toksCells acc) rfl (exc_row HROW7.out (by omega : P < O) ((Exc.refl _ _ _).alloc (Nat.le_refl _) (.cells #[.int .i64 t.kind, .string (strOfNums t.text), .int .i64 t.place] 109))) ⟨W7.heap.size, 0, none⟩ 1 1 (tokCells t) rfl rfl (tokCells_new W7 t _ rfl) (tokCells_one t) (by unfold maxLen; omega) (by omega) (by simp; omega) ?_; intro v4 W8 hown4 hg4 hx; clear hx; have HG8 := Lib.hid hg4; obtain ⟨a4, c4, rfl⟩ := ownsRow_form hown4; have HROW8 := Lib.hid hown4; have HO8 := Lib.hid (grown_keeps hg4 HROW7.out (Nat.lt_succ_self O) HO7.out); obtain ⟨_, oa, ob, oc, qa, qb, qc⟩ := blk3 HO8.out; clear hown4 hg4)
        have hb : Below O W7 (W8.setCell ⟨O, 2, none⟩ (.slice a4 (acc.length + 1) c4)) := (((Below.refl O W7).alloc (by omega) _).grown HG8.out (by simp; omega) (fun k hk => by have := (ownsRow_lt HROW7.out k hk).1; omega)).setCell (Nat.le_refl _) _
        have HO9 := Lib.hid (show (W8.setCell ⟨O, 2, none⟩ (.slice a4 (acc.length + 1) c4)).heap[O]? = some (.cells #[.string (strOfNums a.text), .int .i64 a.place, .slice a4 (acc.length + 1) c4] 117 (0, 0)) from (blk_set HO8.out 2 _).trans rfl)
        have HROW9 := Lib.hid (show (W8.setCell ⟨O, 2, none⟩ (.slice a4 (acc.length + 1) c4)).ownsRow (O + 1) 109 3 (.slice a4 (acc.length + 1) c4) (acc ++ [t]).length (toksCells (acc ++ [t])) by rw [toksCells_snoc, List.length_append]; exact ownsRow_setCell_below HROW8.out (a := ⟨O, 2, none⟩) (Nat.lt_succ_self O) (.slice a4 (acc.length + 1) c4))
        have HR9 := Lib.hid (HR7.out.deep hb (by omega) (by omega))
        have HX9 := Lib.hid (HX7.out.trans (Exc.of_below (hb.mono (by omega : w.heap.size ≤ O))))
        have HZ9 := Lib.hid (blk_below HZ7.out hb (by omega))
        clear hb HG8 HROW8 HO8 oa ob oc qa qb qc HR7 HX7 HZ7 HO7 HROW7 o0 o1 o2 q0 q1 q2 f0 f1 f2 hf2 HF7
        generalize W8.setCell ⟨O, 2, none⟩ (.slice a4 (acc.length + 1) c4) = W9 at *
        have HLE := Lib.hid (show (st4.step commaR).left + 1 ≤ r.length from Nat.le_trans (Nat.succ_le_succ (stp_leaves (f := commaR) (st := st4) (fun r e => comma_keeps (by subst e; exact HR9.out.ends)))) HEAT.out)
        go_wp2_with fail
        refine (dis_any _ P g c l st4 4 ⟨#[44]⟩ [44] (by kernel_rfl) HR9.out).mono ?_
        rintro e Wa ⟨rfl, hb⟩
        have HRa := Lib.hid (HR9.out.keep hb)
        have HOa := Lib.hid (blk_below HO9.out hb (blk_lt HO9.out))
        have HROWa := Lib.hid (exc_row HROW9.out (by omega : P < O) (.of_below hb))
        have HZa := Lib.hid (blk_below HZ9.out hb (blk_lt HZ9.out))
        have HXa := Lib.hid (HX9.out.bel (Nat.le_refl _) hb)
        clear hb HR9 HO9 HROW9 HZ9 HX9
        generalize hi4 : isS 4 [44] st4 = b
        cases b
        · go_wp2_with fail
          refine (dis_any _ P g c l st4 4 ⟨#[125]⟩ [125] (by kernel_rfl) HRa.out).mono ?_
          rintro e Wb ⟨rfl, hb⟩
          have HRb := Lib.hid (HRa.out.keep hb)
          have HOb := Lib.hid (blk_below HOa.out hb (blk_lt HOa.out))
          have HROWb := Lib.hid (exc_row HROWa.out (by omega : P < O) (.of_below hb))
          have HZb := Lib.hid (blk_below HZa.out hb (blk_lt HZa.out))
          have HXb := Lib.hid (HXa.out.bel (Nat.le_refl _) hb)
          clear hb HRa HOa HROWa HZa HXa
          generalize hi5 : isS 4 [125] st4 = b
          cases b
          · have HS5 := Lib.hid (comma_bad hi4 hi5)
            have HB := Lib.hid (dbad_any Wb P g c l st4 11 (by decide) HRb.out)
            clear hi4 hi5
            go_wp2_with fail
            refine HB.out.mono ?_
            rintro e Wc ⟨rfl, hrc, hx⟩
            have HRf := Lib.hid hrc
            clear hrc HB
            have HOf := Lib.hid (blk_exc HOb.out hx (blk_lt HOb.out) (by omega))
            have HROWf := Lib.hid (exc_row HROWb.out (by omega : P < O) hx)
            have HZf := Lib.hid (blk_exc HZb.out hx (blk_lt HZb.out) (by omega))
            have HXf := Lib.hid (HXb.out.thenB (Nat.le_refl _) hx)
            clear hx HRb HOb HROWb HZb HXb
            go_wp2
            go_roundw
            case rel => exact ⟨acc ++ [t], badS 11 st4, _, HRf.out, HOf.out, HROWf.out, HZf.out, HXf.out, by have := HLE.out; rw [HS5.out] at this; simp only [List.length_append, List.length_singleton]; have h2 := hn; simp only [Sto.left] at h2 this ⊢; omega, by rw [← HS5.out]; exact HE1.out⟩
            case measure => rw [dpM_more HRf.out, HM.out]; exact more_left (by rw [← HS5.out]; exact HLE.out)
          · obtain ⟨r4, rfl, hw⟩ := is_word hi5
            have HS5 := Lib.hid (comma_brace hw)
            have HRf := HRb
            have HOf := HOb
            have HROWf := HROWb
            have HZf := HZb
            have HXf := HXb
            clear hi4 hi5 hw HRb HOb HROWb HZb HXb
            go_wp2
            go_roundw
            case rel => exact ⟨acc ++ [t], .go r4, _, HRf.out, HOf.out, HROWf.out, HZf.out, HXf.out, by have := HLE.out; rw [HS5.out] at this; simp only [List.length_append, List.length_singleton]; have h2 := hn; simp only [Sto.left] at h2 this ⊢; omega, by rw [← HS5.out]; exact HE1.out⟩
            case measure => rw [dpM_more HRf.out, HM.out]; exact more_left (by rw [← HS5.out]; exact HLE.out)
        · obtain ⟨r4, rfl, hw⟩ := is_word hi4
          have HS5 := Lib.hid (comma_takes hw)
          have HK := Lib.hid (show (hd r4).kind ≠ 0 by rw [(isT_kind hw).1]; decide)
          have hda : Dp Wa P g c l r4 (0, 0) := HRa.out
          obtain ⟨_, r0, r1, r2, r3, s1, s2, s3⟩ := blk4 hda.blk
          have hfew := hda.few
          have hlen := hda.len
          have HRf : Hid (DpS (Wa.setCell ⟨P, 1, none⟩ (.int .i64 (((l.length - r4.length : Nat) : Int) + 1))) P g c l (.go r4.tail)) := Lib.hid (dp_next hda HK.out)
          have hx : Exc P Wa.heap.size Wa (Wa.setCell ⟨P, 1, none⟩ (.int .i64 (((l.length - r4.length : Nat) : Int) + 1))) := exc_set _ _ _ _
          clear hi4 hw hda
          have HOf := Lib.hid (blk_exc HOa.out hx (blk_lt HOa.out) (by omega))
          have HROWf := Lib.hid (exc_row HROWa.out (by omega : P < O) hx)
          have HZf := Lib.hid (blk_exc HZa.out hx (blk_lt HZa.out) (by omega))
          have HXf := Lib.hid (HXa.out.thenB (Nat.le_refl _) hx)
          clear hx HRa HOa HROWa HZa HXa
          go_wp2
          go_roundw
          case rel => exact ⟨acc ++ [t], .go r4.tail, _, HRf.out, HOf.out, HROWf.out, HZf.out, HXf.out, by have := HLE.out; rw [HS5.out] at this; simp only [List.length_append, List.length_singleton]; have h2 := hn; simp only [Sto.left] at h2 this ⊢; omega, by rw [← HS5.out]; exact HE1.out⟩
          case measure => rw [dpM_more HRf.out, HM.out]; exact more_left (by rw [← HS5.out]; exact HLE.out)
      · have HE := Lib.hid (step_of (HX'.out.trans (HEQ.out.trans (cho_stop HEND.out HI.out))))
        have HK := Lib.hid (show (hd r).kind ≠ 0 by rw [(isT_kind HI.out).1]; decide)
        obtain ⟨va, vc, rfl⟩ := ownsRow_form HROW5.out
        have hd5 : Dp W5 P g c l r (0, 0) := HR5.out
        obtain ⟨_, r0, r1, r2, r3, s1, s2, s3⟩ := blk4 hd5.blk
        simp only at r2 r3
        have hfew := hd5.few
        have hlen := hd5.len
        have HR6 := Lib.hid (dp_next hd5 HK.out)
        have hx6 : Exc P W5.heap.size W5 (W5.setCell ⟨P, 1, none⟩ (.int .i64 (((l.length - r.length : Nat) : Int) + 1))) := exc_set _ _ _ _
        have HX6 := Lib.hid (HX5.out.thenB (Nat.le_refl _) hx6)
        have HZ6 := Lib.hid (blk_exc HZ5.out hx6 (blk_lt HZ5.out) (by omega))
        have HO6 := Lib.hid (blk_exc HO5.out hx6 (blk_lt HO5.out) (by omega))
        have HROW6 := Lib.hid (exc_row HROW5.out (by omega : P < O) hx6)
        clear hx6 hd5
        go_upto_region 13 with (fail)
        clear r0 r1 r2 r3 s1 s2 s3 HR5 HX5 HZ5 HO5 HROW5
        generalize W5.setCell ⟨P, 1, none⟩ (.int .i64 (((l.length - r.length : Nat) : Int) + 1)) = W6 at *
        obtain ⟨_, o0, o1, o2, _⟩ := blk3 HO6.out
        obtain ⟨_, z0, z1, z2, y0, y1, y2⟩ := blk3 HZ6.out
        go_wp2
        refine post_gen (fun Wf => Wf.heap[w.heap.size]? = some (.cells #[.string (strOfNums a.text), .int .i64 a.place, .slice va acc.length vc] 117 (0, 0)) ∧ Wf.ownsRow w.heap.size 109 3 (.slice va acc.length vc) acc.length (toksCells acc) ∧ Exc P w.heap.size w Wf ∧ DpS Wf P g c l (.go r.tail)) ⟨?_, ?_, ?_, ?_⟩ ?_
        · exact blk_set3 HZ6.out _ _ _
        · exact ownsRow_base (ownsRow_set3 HROW6.out (by omega) _ _ _) (by omega)
        · exact HX6.out.set3 (Nat.le_refl _) _ _ _
        · exact DpS.set3 (st := .go r.tail) HR6.out (by omega) (by omega) _ _ _
        · rintro Wf ⟨f1, f2, f3, f4⟩
          obtain ⟨_, c0, c1, c2, _⟩ := blk3 f1
          exact bodyPost_ret (v := .agg #[.string (strOfNums a.text), .int .i64 a.place, .slice va acc.length vc]) (by simp [results, Tryz.results53, go_sem, c0, c1, c2]) rfl ⟨⟨a.text, a.place, acc⟩, _, rfl, f2, by rw [HE.out.1]; exact f4, f3, HE.out.2⟩
end Go.Proofs.YtleclhnlojalbaaGreatDoor
namespace Go.Proofs.YtleclhnlojalbaaGreatDoor
open Go.ChangeShapes Go.WideShapes Go.ChangeAt Go.RowKit Go.Shelf

def fld4 (t : Tok) (ty : RTy) (d : Tok) : RField := ⟨t.text, t.place, ty, d⟩
def recTail (t : Tok) (acc : List RField) (r : List Tok) : Res RRec := (fieldsL acc r).bind fun ns r3 => .ok ⟨t.text, t.place, ns⟩ r3
theorem rec_start {st : Sto} {t : Tok} (h : Got st nameR t) : st.rd recR = ((st.step nameR).step (wantR [123])).rd (recTail t []) := by
  have e : recR = fun r => (nameR r).bind fun t r1 => (wantR [123] r1).bind fun _ r2 => recTail t [] r2 := by
    funext r
    unfold recR recTail
    rfl
  rw [e, got_rd (k := fun (t : Tok) r1 => (wantR [123] r1).bind fun _ r2 => recTail t [] r2) h]
  exact got_rd (k := fun (_ : Unit) r2 => recTail t [] r2) got_unit
theorem rec_stop {t : Tok} {acc : List RField} {r : List Tok} (he : Ends r) (h : isT 4 [125] r = true) : (Sto.go r).rd (recTail t acc) = (Sto.go r.tail).rd (fun r => .ok ⟨t.text, t.place, acc⟩ r) := by
  show (fieldsL acc r).bind _ = _
  rw [fieldsL_step he, if_pos h]
  rfl
theorem res_assoc {α β γ : Type} (x : Res α) (f : α → List Tok → Res β) (g : β → List Tok → Res γ) : (x.bind f).bind g = x.bind fun a r => (f a r).bind g := by
  cases x <;> rfl
theorem rec_round {a t d : Tok} {ty : RTy} {acc : List RField} {r : List Tok} (he : Ends r) (hb : isT 4 [125] r = false) (h1 : Got (.go r) labelR t) (h2 : Got (((Sto.go r).step labelR).step (wantR [58])) tyR ty) (h3 : Got ((((Sto.go r).step labelR).step (wantR [58])).step tyR) dfltR d) :
    (Sto.go r).rd (recTail a acc) = ((((((Sto.go r).step labelR).step (wantR [58])).step tyR).step dfltR).step (wantR [59])).rd (recTail a (acc ++ [fld4 t ty d])) := by
  have e : (Sto.go r).rd (recTail a acc) = (Sto.go r).rd (fun r => (labelR r).bind fun t r1 => (wantR [58] r1).bind fun _ r2 => (tyR r2).bind fun ty r3 => (dfltR r3).bind fun d r4 => (wantR [59] r4).bind fun _ r5 => recTail a (acc ++ [fld4 t ty d]) r5) := by
    show recTail a acc r = (labelR r).bind _
    unfold recTail
    rw [fieldsL_step he, if_neg (by rw [hb]; decide)]
    unfold fieldR
    simp only [res_assoc, bind_ok, fld4]
  rw [e, got_rd (k := fun (t : Tok) (r1 : List Tok) => (wantR [58] r1).bind fun _ r2 => (tyR r2).bind fun ty r3 => (dfltR r3).bind fun d r4 => (wantR [59] r4).bind fun _ r5 => recTail a (acc ++ [fld4 t ty d]) r5) h1,
    got_rd (f := wantR [58]) (t := ()) (k := fun (_ : Unit) r2 => (tyR r2).bind fun ty r3 => (dfltR r3).bind fun d r4 => (wantR [59] r4).bind fun _ r5 => recTail a (acc ++ [fld4 t ty d]) r5) got_unit,
    got_rd (f := tyR) (t := ty) (k := fun (ty : RTy) (r3 : List Tok) => (dfltR r3).bind fun d r4 => (wantR [59] r4).bind fun _ r5 => recTail a (acc ++ [fld4 t ty d]) r5) h2,
    got_rd (f := dfltR) (t := d) (k := fun (d : Tok) (r4 : List Tok) => (wantR [59] r4).bind fun _ r5 => recTail a (acc ++ [fld4 t ty d]) r5) h3]
  exact got_rd (f := wantR [59]) (t := ()) (k := fun (_ : Unit) r5 => recTail a (acc ++ [fld4 t ty d]) r5) got_unit
theorem dflt_none {st : Sto} (h : isS 4 [61] st = false) : st.step dfltR = st ∧ Got st dfltR noTok := by
  cases st with
  | fell c p => exact ⟨rfl, fun _ _ _ e => by cases e⟩
  | go r =>
    have e : dfltR r = .ok noTok r := if_neg (by rw [show isT 4 [61] r = false from h]; decide)
    exact ⟨step_ok e, fun r' a r2 e1 e2 => by cases e1; rw [e] at e2; exact (Res.ok.inj e2).1⟩
theorem dflt_bad {r : List Tok} (h : isT 4 [61] r = true) (h1 : ¬ ((hd r.tail).kind = 1 ∨ (hd r.tail).kind = 2)) (d : Tok) : (Sto.go r).step dfltR = .fell 11 (hd r.tail).place ∧ Got (.go r) dfltR d := by
  have e : dfltR r = .no 11 (hd r.tail).place := (if_pos h).trans (if_neg h1)
  exact ⟨step_no e, fun r' a r2 e1 e2 => by cases e1; rw [e] at e2; cases e2⟩
theorem dflt_good {r : List Tok} (h : isT 4 [61] r = true) (h1 : (hd r.tail).kind = 1 ∨ (hd r.tail).kind = 2) : (Sto.go r).step dfltR = .go r.tail.tail ∧ Got (.go r) dfltR (hd r.tail) := by
  have e : dfltR r = .ok (hd r.tail) r.tail.tail := (if_pos h).trans (if_pos h1)
  exact ⟨step_ok e, fun r' a r2 e1 e2 => by cases e1; rw [e] at e2; exact (Res.ok.inj e2).1⟩
def DRecAt (P g c : Nat) (l : List Tok) (w : World) (O : Nat) (t : Tok) (X : Res RRec) (wr : World) : Prop :=
  ∃ (acc : List RField) (st1 : Sto) (v : Value), DpS wr P g c l st1 ∧ wr.heap[O]? = some (.cells #[.string (strOfNums t.text), .int .i64 t.place, v] 114 (0, 0)) ∧ wr.ownsRow (O + 1) 135 8 v acc.length (fieldsCells acc) ∧
    wr.heap[w.heap.size]? = some (.cells #[.string ByteArray.empty, .int .i64 0, .slice none 0 0] 114 (0, 0)) ∧ Exc P w.heap.size w wr ∧ acc.length + st1.left ≤ l.length ∧ X = st1.rd (recTail t acc)
def DRecPost (P g c : Nat) (l : List Tok) (w : World) (st : Sto) (e : Ending) (w' : World) : Prop :=
  ∃ (s : RRec) (v : Value), e = .returned (.agg #[.string (strOfNums s.name), .int .i64 s.place, v]) ∧ w'.ownsRow w.heap.size 135 8 v s.fields.length (fieldsCells s.fields) ∧ DpS w' P g c l (st.step recR) ∧ Exc P w.heap.size w w' ∧ Got st recR s
end Go.Proofs.YtleclhnlojalbaaGreatDoor
namespace Go.Proofs.YtleclhnlojalbaaGreatDoor
open Go.ChangeShapes Go.WideShapes Go.ChangeAt Go.RowKit Go.Shelf

theorem kind_ne {k : Int} {s : List Int} {r : List Tok} (h : isT k s r = true) (hk : k ≠ 0) : (hd r).kind ≠ 0 := by
  rw [(isT_kind h).1]
  exact hk
theorem sch_end {a : RRaw} {r : List Tok} (he : Ends r) (h : (hd r).kind = 0) : (Sto.go r).rd (schemaL a) = (Sto.go r).rd (fun r => .ok a r) := by
  show schemaL a r = .ok a r
  rw [schemaL_step he, if_pos h]
theorem sch_struct {a : RRaw} {r : List Tok} {s : RRec} (he : Ends r) (h : isT 1 wStruct r = true) (hg : Got (.go r.tail) recR s) : (Sto.go r).rd (schemaL a) = ((Sto.go r.tail).step recR).rd (schemaL ⟨a.structs ++ [s], a.enums, a.roots⟩) := by
  have e : schemaL a r = (recR r.tail).bind fun s r' => schemaL ⟨a.structs ++ [s], a.enums, a.roots⟩ r' := by
    rw [schemaL_step he, if_neg (kind_ne h (by decide))]
    unfold partR
    rw [if_pos h]
    cases recR r.tail <;> rfl
  exact e.trans (got_rd (k := fun (s : RRec) (r' : List Tok) => schemaL ⟨a.structs ++ [s], a.enums, a.roots⟩ r') hg)
theorem sch_enum {a : RRaw} {r : List Tok} {s : RCho} (he : Ends r) (h0 : isT 1 wStruct r = false) (h : isT 1 wEnum r = true) (hg : Got (.go r.tail) choR s) : (Sto.go r).rd (schemaL a) = ((Sto.go r.tail).step choR).rd (schemaL ⟨a.structs, a.enums ++ [s], a.roots⟩) := by
  have e : schemaL a r = (choR r.tail).bind fun s r' => schemaL ⟨a.structs, a.enums ++ [s], a.roots⟩ r' := by
    rw [schemaL_step he, if_neg (kind_ne h (by decide))]
    unfold partR
    rw [if_neg (by rw [h0]; decide), if_pos h]
    cases choR r.tail <;> rfl
  exact e.trans (got_rd (k := fun (s : RCho) (r' : List Tok) => schemaL ⟨a.structs, a.enums ++ [s], a.roots⟩ r') hg)
theorem sch_root {a : RRaw} {r : List Tok} {t : Tok} (he : Ends r) (h0 : isT 1 wStruct r = false) (h1 : isT 1 wEnum r = false) (h : isT 1 wRoot r = true) (hg : Got (.go r.tail) nameR t) :
    (Sto.go r).rd (schemaL a) = (((Sto.go r.tail).step nameR).step (wantR [59])).rd (schemaL ⟨a.structs, a.enums, a.roots ++ [t]⟩) := by
  have e : schemaL a r = (nameR r.tail).bind fun t r1 => (wantR [59] r1).bind fun _ r' => schemaL ⟨a.structs, a.enums, a.roots ++ [t]⟩ r' := by
    rw [schemaL_step he, if_neg (kind_ne h (by decide))]
    unfold partR
    rw [if_neg (by rw [h0]; decide), if_neg (by rw [h1]; decide), if_pos h]
    cases nameR r.tail with
    | no c p => rfl
    | ok t r1 =>
      simp only [bind_ok]
      cases wantR [59] r1 <;> rfl
  refine e.trans ((got_rd (k := fun (t : Tok) (r1 : List Tok) => (wantR [59] r1).bind fun _ r' => schemaL ⟨a.structs, a.enums, a.roots ++ [t]⟩ r') hg).trans ?_)
  exact got_rd (k := fun (_ : Unit) (r' : List Tok) => schemaL ⟨a.structs, a.enums, a.roots ++ [t]⟩ r') got_unit
theorem sch_bad {a : RRaw} {r : List Tok} (he : Ends r) (hk : (hd r).kind ≠ 0) (h0 : isT 1 wStruct r = false) (h1 : isT 1 wEnum r = false) (h2 : isT 1 wRoot r = false) :
    (Sto.go r).rd (schemaL a) = (badS 11 (.go r)).rd (schemaL a) := by
  show schemaL a r = .no 11 (hd r).place
  rw [schemaL_step he, if_neg hk]
  unfold partR
  rw [if_neg (by rw [h0]; decide), if_neg (by rw [h1]; decide), if_neg (by rw [h2]; decide)]
  rfl
end Go.Proofs.YtleclhnlojalbaaGreatDoor
