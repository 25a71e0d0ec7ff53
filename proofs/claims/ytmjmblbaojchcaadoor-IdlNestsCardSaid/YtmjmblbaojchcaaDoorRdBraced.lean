/-
  The reader of the package idl: what stands between braces, read thing by thing by a function that is handed over, whatever that function keeps. Conditions: those that each theorem names.
-/
import Derived.Test.YtmjmblbaojchcaaDoorRdField
import Derived.Laws.EntriesVeiled
import Derived.Shelf.Abstract
namespace Go.Proofs.YtmjmblbaojchcaaDoor
open Go.ChangeShapes Go.WideShapes Go.ChangeAt Go.RowKit Go.Shelf

theorem tail_len (b : Bool) (r : List Tok) : (if b = true then r.tail else r).length ≤ r.length := by
  split
  · rw [List.length_tail]; omega
  · exact Nat.le_refl _
section
variable {α : Type}
/-- One thing read by the function: it is put to those before it, or a fault is kept. -/
def StepPost (I : World → List α → List Tok → Prop) (J : World → Int × Nat → Prop) (x : Res α) (acc : List α) (e : Ending) (W : World) : Prop :=
  match x with
  | .ok a r => e = .returned (.bool true) ∧ I W (acc ++ [a]) r
  | .no c p => e = .returned (.bool false) ∧ J W (c, p)
/-- All things read. -/
def ListPost (I : World → List α → List Tok → Prop) (J : World → Int × Nat → Prop) (x : Res (List α)) (e : Ending) (W : World) : Prop :=
  match x with
  | .ok acc r => e = .returned (.bool true) ∧ I W acc r
  | .no c p => e = .returned (.bool false) ∧ J W (c, p)
def lenAt : Option Value → Nat
  | some (.slice _ n _) => n
  | _ => 0
/-- What a function that reads things keeps: the reader, whatever else (I); what it leaves behind a fault (J). -/
structure Keeper (R g c : Nat) (l : List Tok) (gf : FuncId) (lb : Array Value) (I : World → List α → List Tok → Prop) (J : World → Int × Nat → Prop) (step : List Tok → Res α) : Prop where
  enters : ∀ args w, (callFunc gf args).run Tryd.prog w = .ok (.enter gf args) w
  rd : ∀ W acc r, I W acc r → Rd W R g c l r (0, 0)
  stay : ∀ W W' acc r r', I W acc r → Rd W' R g c l r' (0, 0) → Exc R W.heap.size W W' → r'.length ≤ r.length → I W' acc r'
  fails : ∀ W W' acc r r' F, I W acc r → Rd W' R g c l r' F → Exc R W.heap.size W W' → J W' F
  eats : ∀ r, Ends r → Eats r (step r)
  gives : ∀ W acc r, I W acc r → Calls Tryd.prog gf lb W (StepPost I J (step r) acc)
set_option maxHeartbeats 1000000 in
theorem braced_any {R g c : Nat} {l : List Tok} {gf : FuncId} {lb : Array Value} {I : World → List α → List Tok → Prop} {J : World → Int × Nat → Prop} {step : List Tok → Res α} (L : List α → List Tok → Res (List α))
    (hL : ∀ acc r, Ends r → L acc r = if isT 4 [125] r = true then .ok acc r.tail else (step r).bind fun x r' => L (acc ++ [x]) r')
    (hK : Keeper R g c l gf lb I J step) (acc : List α) (r : List Tok) (w : World) (h : I w acc r) :
    Calls Tryd.prog 79 #[.pointer (some ⟨R, 0, none⟩), .func (.func gf) #[] lb] w (ListPost I J ((wantR [123] r).bind fun _ r2 => L acc r2)) := by
  have HI := Lib.hid h
  have e1 := hK.enters
  have HK := Lib.hid hK
  have HL := Lib.hid hL
  obtain ⟨T, hT⟩ : ∃ T, ((wantR [123] r).bind fun _ r2 => L acc r2) = T := ⟨_, rfl⟩
  rw [hT]
  have HT := Lib.hid hT
  clear h hK hL hT
  go_enter Tryd.func79, Tryd.ntmps79
  go_wp2_with fail
  refine (want_any _ R g c l r ⟨#[123]⟩ [123] (by kernel_rfl) (HK.out.rd _ _ _ HI.out)).mono ?_
  rintro e W1 ⟨r1, F1, ok1, rfl, hr1, hx1, hs1⟩
  have HR1 := Lib.hid hr1
  have HX1 := Lib.hid hx1
  have HS1 := Lib.hid hs1
  have HEAT := Lib.hid (want_eats (s := [123]) (HK.out.rd _ _ _ HI.out).ends)
  clear hr1 hx1 hs1
  generalize wantR [123] r = q at *
  obtain ⟨a', r'⟩ | ⟨cc, pp⟩ := q
  · obtain ⟨rfl, _, rfl, rfl⟩ := HS1.out
    have HT1 := Lib.hid (HT.out.symm.trans (bind_ok _ _ _))
    have HI1 := Lib.hid (HK.out.stay _ _ _ _ _ HI.out HR1.out HX1.out (Nat.le_of_lt (HEAT.out _ _ rfl).2))
    clear HI HR1 HX1 HEAT
    go_wp2
    go_loopw [] (fun wr => ∃ acc2 r2, I wr acc2 r2 ∧ L acc r1 = L acc2 r2) (fun wr => lenAt (wr.cell? ⟨R, 0, none⟩))
    case atStart => exact ⟨acc, r1, HI1.out, rfl⟩
    case round =>
      obtain ⟨acc2, r2, hi2, he2⟩ := hrel
      have hend := (HK.out.rd _ _ _ hi2).ends
      have HE2 := Lib.hid (he2.trans (HL.out acc2 r2 hend))
      have HI2 := Lib.hid hi2
      have HM := Lib.hid (show lenAt (wr.cell? ⟨R, 0, none⟩) = r2.length by rw [(HK.out.rd _ _ _ hi2).cells3.1]; rfl)
      have HEND := Lib.hid hend
      clear hi2 he2 hend
      go_wp2_with fail
      refine (sign_any _ R g c l r2 (0, 0) ⟨#[125]⟩ [125] (by kernel_rfl) (HK.out.rd _ _ _ HI2.out)).mono ?_
      rintro e W3 ⟨rfl, hr3, hx3⟩
      have HI3 := Lib.hid (HK.out.stay _ _ _ _ _ HI2.out hr3 hx3 (tail_len _ _))
      clear hr3 hx3
      generalize isT 4 [125] r2 = b at *
      cases b
      · have HE3 := Lib.hid (HE2.out.trans (if_neg (by decide)))
        rw [if_neg (by decide)] at HI3
        clear HE2
        have HG := Lib.hid (HK.out.gives _ _ _ HI3.out)
        go_wp2_with fail
        refine HG.out.mono ?_
        rintro e W4 hp
        have HP := Lib.hid hp
        have HEA := Lib.hid (HK.out.eats r2 HEND.out)
        clear hp
        generalize step r2 = q at *
        obtain ⟨a4, r4⟩ | ⟨cc, pp⟩ := q
        · obtain ⟨rfl, hi4⟩ := HP.out
          have HI4 := Lib.hid hi4
          have HE4 := Lib.hid (HE3.out.trans (bind_ok _ _ _))
          have HLT := Lib.hid (HEA.out a4 r4 rfl).2
          have HM4 := Lib.hid (show lenAt (W4.cell? ⟨R, 0, none⟩) = r4.length by rw [(HK.out.rd _ _ _ hi4).cells3.1]; rfl)
          clear hi4
          go_wp2
          go_roundw
          case rel => exact ⟨acc2 ++ [a4], r4, HI4.out, HE4.out⟩
          case measure => rw [HM4.out, HM.out]; exact HLT.out
        · obtain ⟨rfl, hi4⟩ := HP.out
          have HI4 := Lib.hid hi4
          have HE4 := Lib.hid (HE3.out.trans (bind_no _ _ _))
          clear hi4
          go_wp2
          go_ret
          rw [HT1.out, HE4.out]
          exact ⟨rfl, HI4.out⟩
      · have HE3 := Lib.hid (HE2.out.trans (if_pos rfl))
        rw [if_pos rfl] at HI3
        clear HE2
        go_wp2
        go_ret
        rw [HT1.out, HE3.out]
        exact ⟨rfl, HI3.out⟩
  · obtain ⟨rfl, rfl⟩ := HS1.out
    have HT1 := Lib.hid (HT.out.symm.trans (bind_no _ _ _))
    go_wp2
    go_ret
    rw [HT1.out]
    exact ⟨rfl, HK.out.fails _ _ _ _ _ _ HI.out HR1.out HX1.out⟩
end
end Go.Proofs.YtmjmblbaojchcaaDoor
