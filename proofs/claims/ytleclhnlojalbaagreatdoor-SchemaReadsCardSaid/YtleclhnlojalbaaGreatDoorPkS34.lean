/-
  The document's own parser: a type. Conditions: those that each theorem names.
  The document's own parser: an enum. Conditions: those that each theorem names.
-/
import Derived.Test.YtleclhnlojalbaaGreatDoorPkS8
import Derived.Test.YtleclhnlojalbaaGreatDoorPkS33
namespace Go.Proofs.YtleclhnlojalbaaGreatDoor
open Go.ChangeShapes Go.WideShapes Go.ChangeAt Go.RowKit Go.Shelf

/-- Behind the name of a type. -/
def tyTail (t : Tok) (n p k : Nat) (r : List Tok) : Res RTy := (closeR k r).bind fun _ r3 => .ok ⟨t.text, n, p⟩ r3
theorem tyEnd_got {st : Sto} {t : Tok} {n p : Nat} (h : Got st nameR t) : st.rd (tyEnd p n) = (st.step nameR).rd (tyTail t n p n) := got_rd (k := fun (t : Tok) (r2 : List Tok) => tyTail t n p n r2) h
theorem tail_step {st : Sto} {t : Tok} {n p k : Nat} (h : k < n) : st.rd (tyTail t n p (n - k)) = (st.step (wantR [62])).rd (tyTail t n p (n - (k + 1))) := by
  have e : (tyTail t n p (n - k)) = fun r => (wantR [62] r).bind fun _ r' => tyTail t n p (n - (k + 1)) r' := by
    funext r
    unfold tyTail
    rw [close_step h]
    cases wantR [62] r <;> rfl
  rw [e]
  exact got_rd (k := fun _ r' => tyTail t n p (n - (k + 1)) r') got_unit
theorem lists_got {st : Sto} {r : List Tok} {n p : Nat} (hn : n < 3) (hst : st = .go r) (h : isT 1 wList r = true) :
    st.rd (fun r1 => (listsR (3 - n) n r1).bind (tyEnd p)) = ((Sto.go r.tail).step (wantR [60])).rd (fun r1 => (listsR (3 - (n + 1)) (n + 1) r1).bind (tyEnd p)) := by
  subst hst
  show (listsR (3 - n) n r).bind (tyEnd p) = _
  rw [lists_step hn h]
  rw [← got_rd (f := wantR [60]) (t := ()) (k := fun _ r1 => (listsR (3 - (n + 1)) (n + 1) r1).bind (tyEnd p)) got_unit]
  show _ = (wantR [60] r.tail).bind _
  cases wantR [60] r.tail <;> rfl
theorem lists_none {st : Sto} {n p : Nat} (h : isS 1 wList st = false) : st.rd (fun r1 => (listsR (3 - n) n r1).bind (tyEnd p)) = st.rd (tyEnd p n) := by
  cases st with
  | fell c p => rfl
  | go r =>
    show (listsR (3 - n) n r).bind (tyEnd p) = tyEnd p n r
    rw [lists_stop h]
    rfl
/-- Where the parser is among the lists of a type. -/
def DTyAt (P g c : Nat) (l : List Tok) (w : World) (T p : Nat) (X : Res RTy) (wr : World) : Prop :=
  ∃ (n : Nat) (st1 : Sto), n ≤ 3 ∧ DpS wr P g c l st1 ∧ wr.heap[T]? = some (.cells #[.string ByteArray.empty, .int .i64 n, .int .i64 p] 133 (0, 0)) ∧
    wr.heap[w.heap.size]? = some (.cells #[.string ByteArray.empty, .int .i64 0, .int .i64 0] 133 (0, 0)) ∧ Exc P w.heap.size w wr ∧ X = st1.rd (fun r1 => (listsR (3 - n) n r1).bind (tyEnd p))
def DCloseAt (P g c : Nat) (l : List Tok) (w : World) (T n p : Nat) (t : Tok) (X : Res RTy) (i : Value) (wr : World) : Prop :=
  ∃ (k : Nat) (st1 : Sto), i = .int .i64 k ∧ k ≤ n ∧ DpS wr P g c l st1 ∧ wr.heap[T]? = some (.cells #[.string (strOfNums t.text), .int .i64 n, .int .i64 p] 133 (0, 0)) ∧
    wr.heap[w.heap.size]? = some (.cells #[.string ByteArray.empty, .int .i64 0, .int .i64 0] 133 (0, 0)) ∧ Exc P w.heap.size w wr ∧ X = st1.rd (tyTail t n p (n - k))
set_option maxRecDepth 100000 in
set_option maxHeartbeats 2000000 in
theorem dkind_any (w : World) (P g c : Nat) (l : List Tok) (st : Sto) (h : DpS w P g c l st) :
    Calls Tryz.prog 81 #[.pointer (some ⟨P, 0, none⟩)] w (PostD tyV P g c l w st tyR) := by
  have HB0 := Lib.hid (heap_alloc_new w (.cells #[.string ByteArray.empty, .int .i64 0, .int .i64 0] 133))
  have hbA : Below w.heap.size w (w.alloc (.cells #[.string ByteArray.empty, .int .i64 0, .int .i64 0] 133)) := (Below.refl _ _).alloc (Nat.le_refl _) _
  have HBA := Lib.hid hbA
  have HD := Lib.hid (h.keep hbA)
  have HH := Lib.hid (dhere_st _ P g c l st HD.out)
  obtain ⟨hP, hg, hgP⟩ := h.facts
  have hf := fld2
  clear h hbA
  unfold tokV at HH
  go_enter Tryz.func81, Tryz.ntmps81
  go_wp2_with fail
  refine HH.out.mono ?_
  rintro e W1 ⟨u, rfl, hb1, hu⟩
  have HB1 := Lib.hid (HBA.out.trans (hb1.mono HBA.out.size))
  have HD1 := Lib.hid (HD.out.keep hb1)
  have HZ1 := Lib.hid (blk_below HB0.out hb1 (by simp))
  have hT : w.heap.size < W1.heap.size := blk_lt HZ1.out
  have HTY : Hid (st.rd tyR = st.rd (fun r1 => (listsR (3 - 0) 0 r1).bind (tyEnd u.place))) := Lib.hid (by
    cases st with
    | fell c p => rfl
    | go r => rw [hu r rfl]; rfl)
  clear hb1 hu
  go_wp2_with fail
  have hbT : Below W1.heap.size W1 (W1.alloc (.cells #[.string ⟨#[]⟩, .int .i64 0, .int .i64 u.place] 133)) := (Below.refl _ _).alloc (Nat.le_refl _) _
  have HRD := Lib.hid (HD1.out.keep hbT)
  have HX := Lib.hid ((Exc.of_below (R := P) HB1.out).thenB (Nat.le_refl _) (.of_below hbT))
  have HZ := Lib.hid (blk_below HZ1.out hbT hT)
  have HT := Lib.hid (heap_alloc_new W1 (.cells #[.string ⟨#[]⟩, .int .i64 0, .int .i64 u.place] 133))
  clear hbT hf HH HD HD1 HB0 HBA HB1 HZ1
  generalize (W1.alloc (.cells #[.string ⟨#[]⟩, .int .i64 0, .int .i64 u.place] 133)) = W2 at *
  generalize W1.heap.size = T at *
  generalize u.place = p at *
  generalize hXX : st.rd tyR = X at *
  have HXX := Lib.hid hXX
  clear hXX
  go_loopw [] (fun wr => DTyAt P g c l w T p X wr) (fun wr => 3 - numOf (wr.cell? ⟨T, 1, none⟩))
  case atStart => exact ⟨0, st, by decide, HRD.out, HT.out, HZ.out, HX.out, HTY.out⟩
  case round =>
    clear HRD HX HZ HT HTY
    obtain ⟨n, st1, hn, hrd, ht, hz, hx, heq⟩ := hrel
    have HRD := Lib.hid hrd
    have HT := Lib.hid ht
    have HTm := Lib.hid ht
    have HZ := Lib.hid hz
    have HX := Lib.hid hx
    have HEQ := Lib.hid heq
    clear hrd ht hz hx heq
    go_wp2_with fail
    refine (dis_any _ P g c l st1 1 ⟨#[108, 105, 115, 116]⟩ wList (by kernel_rfl) HRD.out).mono ?_
    rintro e W3 ⟨rfl, hb3⟩
    have HR3 := Lib.hid (HRD.out.keep hb3)
    have HT3 := Lib.hid (blk_below HT.out hb3 (blk_lt HT.out))
    have HZ3 := Lib.hid (blk_below HZ.out hb3 (blk_lt HZ.out))
    have HX3 := Lib.hid (HX.out.bel (Nat.le_refl _) hb3)
    clear hb3 HRD HT HZ HX
    generalize hi : isS 1 wList st1 = b
    have HI := Lib.hid hi
    clear hi
    cases b
    · have HE := Lib.hid (HEQ.out.trans (lists_none HI.out))
      clear HEQ
      go_wp2_with fail
      refine (dname_any _ P g c l st1 false HR3.out).mono ?_
      rintro e W4 ⟨a, rfl, hr4, hx4, hs4⟩
      have HR4 : Hid (DpS W4 P g c l (st1.step nameR)) := Lib.hid hr4
      have HX4 := Lib.hid (HX3.out.thenB (Nat.le_refl _) hx4)
      have HZ4 := Lib.hid (blk_exc HZ3.out hx4 (blk_lt HZ3.out) (by omega))
      have HT4 := Lib.hid (blk_exc HT3.out hx4 (blk_lt HT3.out) (by omega))
      have HE2 := Lib.hid (HE.out.trans (tyEnd_got (t := a) (n := n) (p := p) hs4))
      clear hr4 hx4 hs4 HR3 HX3 HZ3 HT3 HE HI HTm
      generalize st1.step nameR = st2 at *
      unfold tokV
      obtain ⟨hT', t0, t1, t2, u0, u1, u2⟩ := blk3 HT4.out
      have hsz4 : T < W4.heap.size := hT'
      go_wp2_with fail
      go_loopw [5] (fun i wr => DCloseAt P g c l w T n p a X i wr) (fun i _ => n - (intOf i).toNat)
      case atStart => exact ⟨0, st2, rfl, Nat.zero_le _, (HR4.out.set1 (by omega) (by omega) _ _).alloc _, blk_alloc ((blk_set HT4.out 0 _).trans rfl) _, blk_alloc (blk_set_ne HZ4.out (by simp only; omega) _) _, (HX4.out.set1 (by omega) _ _).alloc (by simp [World.setCell]; omega) _, HE2.out⟩
      case round =>
        clear t0 t1 t2 u0 u1 u2 HR4 HX4 HZ4 HT4
        obtain ⟨k, st3, rfl, hk, hr5, ht5, hz5, hx5, he5⟩ := hrel
        have HR5 := Lib.hid hr5
        have HT5 := Lib.hid ht5
        have HZ5 := Lib.hid hz5
        have HX5 := Lib.hid hx5
        have HE5 := Lib.hid he5
        obtain ⟨_, t0, t1, t2, u0, u1, u2⟩ := blk3 ht5
        clear hr5 ht5 hz5 hx5 he5
        by_cases hkn : k < n
        · have HE6 := Lib.hid (HE5.out.trans (tail_step hkn))
          clear HE5
          go_wp2_with fail
          refine (dwant_any _ P g c l st3 ⟨#[62]⟩ [62] (by kernel_rfl) HR5.out).mono ?_
          rintro e W6 ⟨rfl, hr6, hx6⟩
          have HR6 := Lib.hid hr6
          have HX6 := Lib.hid (HX5.out.thenB (Nat.le_refl _) hx6)
          have HZ6 := Lib.hid (blk_exc HZ5.out hx6 (blk_lt HZ5.out) (by omega))
          have HT6 := Lib.hid (blk_exc HT5.out hx6 (blk_lt HT5.out) (by omega))
          clear hr6 hx6 HR5 HX5 HZ5 HT5 t0 t1 t2 u0 u1 u2
          go_wp2
          go_roundw
          case rel => exact ⟨k + 1, _, by go_num, hkn, HR6.out, HT6.out, HZ6.out, HX6.out, HE6.out⟩
          case measure => simp [intOf]; omega
        · have hkn' : k = n := by omega
          subst hkn'
          have HE6 := Lib.hid (step_of (a := ⟨a.text, k, p⟩) ((HXX.out.trans HE5.out).trans (by rw [Nat.sub_self]; rfl)))
          obtain ⟨_, z0, z1, z2, y0, y1, y2⟩ := blk3 HZ5.out
          go_wp2
          refine post_gen (fun Wf => Wf.heap[w.heap.size]? = some (.cells #[.string (strOfNums a.text), .int .i64 k, .int .i64 p] 133 (0, 0)) ∧ Exc P w.heap.size w Wf ∧ DpS Wf P g c l st3) ⟨?_, ?_, ?_⟩ ?_
          · exact blk_set3 HZ5.out _ _ _
          · exact HX5.out.set3 (Nat.le_refl _) _ _ _
          · exact HR5.out.set3 (by omega) (by omega) _ _ _
          · rintro Wf ⟨f1, f2, f3⟩
            obtain ⟨_, c0, c1, c2, _⟩ := blk3 f1
            exact bodyPost_ret (v := .agg #[.string (strOfNums a.text), .int .i64 k, .int .i64 p]) (by simp [results, Tryz.results81, go_sem, c0, c1, c2]) rfl ⟨⟨a.text, k, p⟩, rfl, by rw [HE6.out.1]; exact f3, f2, HE6.out.2⟩
    · obtain ⟨r1, rfl⟩ : ∃ r1, st1 = .go r1 := by
        have := HI.out
        cases st1 with
        | go r => exact ⟨r, rfl⟩
        | fell c p => cases this
      have HI' : Hid (isT 1 wList r1 = true) := Lib.hid HI.out
      obtain ⟨hT', t0, t1, t2, u0, u1, u2⟩ := blk3 HT3.out
      by_cases hn3 : n = 3
      · subst hn3
        have HE := Lib.hid (step_bad (c := 16) (p := (hd r1).place) ((HXX.out.trans HEQ.out).trans (by
          show (listsR (3 - 3) 3 r1).bind (tyEnd p) = _
          rw [lists_many HI'.out]
          rfl)) (⟨[], 3, p⟩ : RTy))
        have HB := Lib.hid (dbad_any W3 P g c l (.go r1) 16 (by decide) HR3.out)
        go_wp2_with fail
        refine HB.out.mono ?_
        rintro e W4 ⟨rfl, hr4, hx4⟩
        have HR4 := Lib.hid hr4
        have HX4 := Lib.hid (HX3.out.thenB (Nat.le_refl _) hx4)
        have HZ4 := Lib.hid (blk_exc HZ3.out hx4 (blk_lt HZ3.out) (by omega))
        have HT4 := Lib.hid (blk_exc HT3.out hx4 (blk_lt HT3.out) (by omega))
        clear hr4 hx4 t0 t1 t2 u0 u1 u2 HT3 HR3 HX3 HZ3
        obtain ⟨_, t0, t1, t2, u0, u1, u2⟩ := blk3 HT4.out
        obtain ⟨_, z0, z1, z2, y0, y1, y2⟩ := blk3 HZ4.out
        go_wp2
        refine post_gen (fun Wf => Wf.heap[w.heap.size]? = some (.cells #[.string ByteArray.empty, .int .i64 (3 : Nat), .int .i64 p] 133 (0, 0)) ∧ Exc P w.heap.size w Wf ∧ DpS Wf P g c l (badS 16 (.go r1))) ⟨?_, ?_, ?_⟩ ?_
        · exact blk_set3 HZ4.out _ _ _
        · exact HX4.out.set3 (Nat.le_refl _) _ _ _
        · exact HR4.out.set3 (by omega) (by omega) _ _ _
        · rintro Wf ⟨f1, f2, f3⟩
          obtain ⟨_, c0, c1, c2, _⟩ := blk3 f1
          exact bodyPost_ret (v := .agg #[.string ByteArray.empty, .int .i64 (3 : Nat), .int .i64 p]) (by simp [results, Tryz.results81, go_sem, c0, c1, c2]) rfl ⟨⟨[], 3, p⟩, rfl, by rw [HE.out.1]; exact f3, f2, HE.out.2⟩
      · have hn3' : n < 3 := by omega
        have HE := Lib.hid (HEQ.out.trans (lists_got hn3' rfl HI'.out))
        have HK := Lib.hid (show (hd r1).kind ≠ 0 by rw [(isT_kind HI'.out).1]; decide)
        have t3 : ((n : Int) == 3) = false := by simp; omega
        have HR4 : Hid (Dp (W3.setCell ⟨T, 1, none⟩ (.int .i64 ((n : Int) + 1))) P g c l r1 (0, 0)) := Lib.hid (HR3.out.set1 (X := T) (st := .go r1) (by omega) (by omega) 1 _)
        have HT4 : Hid ((W3.setCell ⟨T, 1, none⟩ (.int .i64 ((n : Int) + 1))).heap[T]? = some (.cells #[.string ByteArray.empty, .int .i64 ((n : Int) + 1), .int .i64 p] 133 (0, 0))) := Lib.hid ((blk_set HT3.out 1 _).trans rfl)
        have HZ4 := Lib.hid (blk_set_ne (p := ⟨T, 1, none⟩) HZ3.out (by simp only; omega) (.int .i64 ((n : Int) + 1)))
        have HX4 := Lib.hid (HX3.out.set1 (g := T) (by omega) 1 (.int .i64 ((n : Int) + 1)))
        go_upto_region 7 with (fail)
        generalize W3.setCell ⟨T, 1, none⟩ (.int .i64 ((n : Int) + 1)) = W4 at *
        clear t0 t1 t2 u0 u1 u2 t3
        obtain ⟨_, r0, ra, rb, rc, s1, s2, s3⟩ := blk4 HR4.out.blk
        have hfew := HR4.out.few
        have hlen := HR4.out.len
        have HR5 := Lib.hid (dp_next HR4.out HK.out)
        have hx5 : Exc P W4.heap.size W4 (W4.setCell ⟨P, 1, none⟩ (.int .i64 (((l.length - r1.length : Nat) : Int) + 1))) := exc_set _ _ _ _
        have HX5 := Lib.hid (HX4.out.thenB (Nat.le_refl _) hx5)
        have HZ5 := Lib.hid (blk_exc HZ4.out hx5 (blk_lt HZ4.out) (by omega))
        have HT5 := Lib.hid (blk_exc HT4.out hx5 (blk_lt HT4.out) (by omega))
        clear hx5
        go_wp2_with fail
        refine (dwant_any _ P g c l (.go r1.tail) ⟨#[60]⟩ [60] (by kernel_rfl) HR5.out).mono ?_
        rintro e W6 ⟨rfl, hr6, hx6⟩
        have HR6 := Lib.hid hr6
        have HX6 := Lib.hid (HX5.out.thenB (Nat.le_refl _) hx6)
        have HZ6 := Lib.hid (blk_exc HZ5.out hx6 (blk_lt HZ5.out) (by omega))
        have HT6 := Lib.hid (blk_exc HT5.out hx6 (blk_lt HT5.out) (by omega))
        clear hr6 hx6
        go_wp2
        go_roundw
        case rel => exact ⟨n + 1, _, by omega, HR6.out, HT6.out, HZ6.out, HX6.out, HE.out⟩
        case measure =>
          rw [(blk3 HT6.out).2.2.1, (blk3 HTm.out).2.2.1]
          simp [numOf]
          omega
end Go.Proofs.YtleclhnlojalbaaGreatDoor
namespace Go.Proofs.YtleclhnlojalbaaGreatDoor
open Go.ChangeShapes Go.WideShapes Go.ChangeAt Go.RowKit Go.Shelf

/-- How many rounds are left: by the world, and by where the parser is. -/
def codeOf : Option Value → Int
  | some (.int _ n) => n
  | _ => 0
def dpM (l : List Tok) (P : Nat) (w : World) : Nat := if codeOf (w.cell? ⟨P, 2, none⟩) = 0 then l.length + 1 - numOf (w.cell? ⟨P, 1, none⟩) else 0
def Sto.more : Sto → Nat
  | .go r => r.length + 1
  | .fell _ _ => 0
def Sto.left : Sto → Nat
  | .go r => r.length
  | .fell _ _ => 0
theorem dpM_more {w : World} {P g c : Nat} {l : List Tok} {st : Sto} (h : DpS w P g c l st) : dpM l P w = st.more := by
  cases st with
  | go r =>
    have hd' : Dp w P g c l r (0, 0) := h
    obtain ⟨_, r0, r1, r2, _⟩ := blk4 hd'.blk
    have := hd'.len
    unfold dpM
    rw [r2, r1]
    simp [codeOf, numOf, Sto.more]
    omega
  | fell c' p =>
    obtain ⟨h0, r, hd'⟩ := h
    obtain ⟨_, r0, r1, r2, _⟩ := blk4 hd'.blk
    unfold dpM
    rw [r2]
    simp [codeOf, Sto.more, h0]
/-- A reading that eats leaves fewer. -/
theorem step_left {α : Type} {f : List Tok → Res α} {r : List Tok} (h : Eats r (f r)) (h1 : 1 ≤ r.length) : ((Sto.go r).step f).left + 1 ≤ r.length := by
  generalize hq : f r = q
  cases q with
  | ok a r' =>
    rw [step_ok hq]
    exact (h a r' hq).2
  | no c p =>
    rw [step_no hq]
    exact h1
theorem more_left {st : Sto} {r : List Tok} (h : st.left + 1 ≤ r.length) : st.more < (Sto.go r).more := by
  cases st with
  | go r' => simp only [Sto.left] at h; simp only [Sto.more]; omega
  | fell c p => simp only [Sto.more]; omega
theorem stp_leaves {α : Type} {st : Sto} {f : List Tok → Res α} (h : ∀ r, st = .go r → Keeps r (f r)) : (st.step f).left ≤ st.left := by
  cases st with
  | fell c p => exact Nat.le_refl _
  | go r =>
    generalize hq : f r = q
    cases q with
    | ok a r' =>
      rw [step_ok hq]
      exact ((h r rfl) a r' hq).2
    | no c p =>
      rw [step_no hq]
      exact Nat.zero_le _
theorem DpS.ends {w : World} {P g c : Nat} {l : List Tok} {r : List Tok} (h : DpS w P g c l (.go r)) : Ends r := Dp.ends h
theorem is_word {k : Int} {s : List Int} {st : Sto} (h : isS k s st = true) : ∃ r, st = .go r ∧ isT k s r = true := by
  cases st with
  | go r => exact ⟨r, rfl, h⟩
  | fell c p => cases h
theorem comma_takes {r : List Tok} (h : isT 4 [44] r = true) : (Sto.go r).step commaR = .go r.tail := by
  have h1 : isT 4 [125] r = false := by
    have := (isT_kind h).2
    unfold isT
    rw [this]
    simp
  exact step_ok (a := ()) (by unfold commaR wantR; rw [if_neg (by rw [h1]; decide), if_pos h])
theorem comma_brace {r : List Tok} (h : isT 4 [125] r = true) : (Sto.go r).step commaR = .go r :=
  step_ok (a := ()) (by unfold commaR; rw [if_pos h])
theorem comma_bad {st : Sto} (h : isS 4 [44] st = false) (h1 : isS 4 [125] st = false) : st.step commaR = badS 11 st := by
  cases st with
  | fell c p => rfl
  | go r =>
    have h' : isT 4 [44] r = false := h
    have h1' : isT 4 [125] r = false := h1
    exact step_no (c := 11) (p := (hd r).place) (by unfold commaR wantR; rw [if_neg (by rw [h1']; decide), if_neg (by rw [h']; decide)]; rfl)
/-- Behind the values of an enum. -/
def choTail (t : Tok) (acc : List Tok) (r : List Tok) : Res RCho := (namesL acc r).bind fun ns r3 => .ok ⟨t.text, t.place, ns⟩ r3
theorem cho_round {t a : Tok} {acc r : List Tok} (he : Ends r) (hb : isT 4 [125] r = false) (h : Got (.go r) nameR a) : (Sto.go r).rd (choTail t acc) = (((Sto.go r).step nameR).step commaR).rd (choTail t (acc ++ [a])) := by
  have e : (Sto.go r).rd (choTail t acc) = (Sto.go r).rd (fun r => (nameR r).bind fun a r1 => (commaR r1).bind fun _ r2 => choTail t (acc ++ [a]) r2) := by
    show choTail t acc r = (nameR r).bind fun a r1 => (commaR r1).bind fun _ r2 => choTail t (acc ++ [a]) r2
    unfold choTail
    rw [namesL_step2 he, if_neg (by rw [hb]; decide)]
    unfold valueNR
    cases nameR r with
    | no c p => rfl
    | ok t1 r1 =>
      simp only [bind_ok]
      cases commaR r1 with
      | no c p => rfl
      | ok b r2 => rfl
  rw [e, got_rd (k := fun (a : Tok) r1 => (commaR r1).bind fun _ r2 => choTail t (acc ++ [a]) r2) h]
  exact got_rd (k := fun (_ : Unit) r2 => choTail t (acc ++ [a]) r2) got_unit
theorem cho_start {st : Sto} {t : Tok} (h : Got st nameR t) : st.rd choR = ((st.step nameR).step (wantR [123])).rd (choTail t []) := by
  have e : choR = fun r => (nameR r).bind fun t r1 => (wantR [123] r1).bind fun _ r2 => choTail t [] r2 := by
    funext r
    unfold choR choTail
    rfl
  rw [e, got_rd (k := fun (t : Tok) r1 => (wantR [123] r1).bind fun _ r2 => choTail t [] r2) h]
  exact got_rd (k := fun (_ : Unit) r2 => choTail t [] r2) got_unit
theorem cho_stop {t : Tok} {acc r : List Tok} (he : Ends r) (h : isT 4 [125] r = true) : (Sto.go r).rd (choTail t acc) = (Sto.go r.tail).rd (fun r => .ok ⟨t.text, t.place, acc⟩ r) := by
  show (namesL acc r).bind _ = _
  rw [namesL_step2 he, if_pos h]
  rfl
/-- Where the parser is among an enum's values. -/
def DChoAt (P g c : Nat) (l : List Tok) (w : World) (O : Nat) (t : Tok) (X : Res RCho) (wr : World) : Prop :=
  ∃ (acc : List Tok) (st1 : Sto) (v : Value), DpS wr P g c l st1 ∧ wr.heap[O]? = some (.cells #[.string (strOfNums t.text), .int .i64 t.place, v] 117 (0, 0)) ∧ wr.ownsRow (O + 1) 109 3 v acc.length (toksCells acc) ∧
    wr.heap[w.heap.size]? = some (.cells #[.string ByteArray.empty, .int .i64 0, .slice none 0 0] 117 (0, 0)) ∧ Exc P w.heap.size w wr ∧ acc.length + st1.left ≤ l.length ∧ X = st1.rd (choTail t acc)
end Go.Proofs.YtleclhnlojalbaaGreatDoor
