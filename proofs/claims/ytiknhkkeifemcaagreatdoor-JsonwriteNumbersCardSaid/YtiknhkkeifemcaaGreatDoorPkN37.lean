/-
  The program's writer of JSON (package jsonwrite): data; a text of a name; numbers' digits. Conditions: those that each theorem names.
-/
import Derived.Test.YtiknhkkeifemcaaGreatDoorPkN36
namespace Go.Proofs.YtiknhkkeifemcaaGreatDoor
open Go.ChangeShapes Go.WideShapes Go.ChangeAt Go.RowKit Go.Shelf

section
variable {w : World} {base wk ak mk : Nat} {rv cv : Value} {A : Option Addr} {L pay : Int} {enc bs : List Int}
set_option maxRecDepth 100000 in
set_option maxHeartbeats 4000000 in
theorem jwdata_any (h : JwAt base wk ak mk rv cv A L enc pay w) {S : Option Addr} {c : Nat} (hb : OutB w wk ak mk A S c bs) :
    Calls Tryz.prog 77 #[.pointer (some ⟨wk, 0, none⟩), .slice S bs.length c] w fun e w' => e = .returned (.tuple #[]) ∧ JwTo base wk ak mk rv cv A L (enc ++ 34 :: (digL bs ++ [34])) (pay + 2 * (34 :: (digL bs ++ [34])).length) w w' := by
  have HP := Lib.hid (jpay_any h (bs.length : Nat) (by omega))
  have HO := Lib.hid hb
  have HL : Hid ((34 :: (digL bs ++ [34])).length = 2 * bs.length + 2) := Lib.hid (by rw [List.length_cons, List.length_append, digL_len]; rfl)
  have hfew := hb.few
  have hbd := hb.by_.1
  have HBTS : Hid (bts (strOfNums (digL bs)) = digL bs) := Lib.hid (bts_strOf _ (digL_bd (fun z hz => by
    obtain ⟨i, hi, rfl⟩ := List.mem_iff_getElem.1 hz
    have := hbd i
    rw [List.getD, List.getElem?_eq_getElem hi] at this
    exact this)))
  have hds : (strOfNums (digL bs)).size = 2 * bs.length := by rw [← bts_length, HBTS.out, digL_len]
  have HDG := Lib.hid (fun (W : World) (h : OutB W wk ak mk A S c bs) => digits_any S bs.length c bs W h.by_ rfl h.cap h.few)
  generalize strOfNums (digL bs) = D at *
  clear h hb hbd
  obtain ⟨n, hn⟩ : ∃ n, bs.length = n := ⟨_, rfl⟩
  rw [hn] at HP HL hfew hds HDG ⊢
  clear hn
  go_enter Tryz.func77, Tryz.ntmps77
  go_wp2_with fail
  refine HP.out.mono ?_
  intro e W1 hp
  obtain ⟨bb, rfl, hgo, hoff, hx⟩ := hp.bool
  have HX := Lib.hid hx
  clear hp hx
  cases bb
  · have HE := Lib.hid (show JwTo base wk ak mk rv cv A L (enc ++ 34 :: (digL bs ++ [34])) (pay + 2 * (34 :: (digL bs ++ [34])).length) w W1 from ⟨A, .inr ((hoff rfl).more (by rw [List.length_append]; omega) (by rw [HL.out]; omega)), HX.out⟩)
    clear hgo hoff
    go_wp2
    exact bodyPost_end (v := .tuple #[]) (by simp [results, Tryz.results77, go_sem]) rfl ⟨rfl, HE.out⟩
  · have HGO := Lib.hid (hgo rfl)
    have HDD := Lib.hid (HDG.out W1 (HO.out.step HX.out))
    clear hgo hoff
    go_wp2_with fail
    refine HDD.out.mono ?_
    rintro e W2 ⟨rfl, hb2⟩
    have hn1 : ¬ 9223372036854775807 < (⟨#[34]⟩ : ByteArray).size + D.size := by rw [hds]; show ¬ 9223372036854775807 < 1 + 2 * n; omega
    have hs1 : ((⟨#[34]⟩ : ByteArray) ++ D).size = 2 * n + 1 := by rw [ByteArray.size_append, hds]; show 1 + 2 * n = _; omega
    have hn2 : ¬ 9223372036854775807 < ((⟨#[34]⟩ : ByteArray) ++ D).size + (⟨#[34]⟩ : ByteArray).size := by rw [hs1]; show ¬ 9223372036854775807 < 2 * n + 1 + 1; omega
    have hs2 : (((⟨#[34]⟩ : ByteArray) ++ D) ++ (⟨#[34]⟩ : ByteArray)).size = 2 * n + 2 := by rw [ByteArray.size_append, hs1]; rfl
    have HBT : Hid (bts (((⟨#[34]⟩ : ByteArray) ++ D) ++ (⟨#[34]⟩ : ByteArray)) = 34 :: (digL bs ++ [34])) := Lib.hid (by rw [bts_append, bts_append, HBTS.out]; rfl)
    have HPS := Lib.hid (jputs_any ((JwAt.below (.inl HGO.out) hb2)) (((⟨#[34]⟩ : ByteArray) ++ D) ++ (⟨#[34]⟩ : ByteArray)) (by omega))
    have HX2 := Lib.hid (HX.out.trans (.of_below A hb2))
    have HS2 := Lib.hid hs2
    clear hb2 HDD HDG hs1 hs2 hds
    go_wp2_with fail
    refine HPS.out.mono ?_
    rintro e W5 ⟨rfl, ht5⟩
    have HEND := Lib.hid (show JwTo base wk ak mk rv cv A L (enc ++ 34 :: (digL bs ++ [34])) (pay + 2 * (34 :: (digL bs ++ [34])).length) w W5 by
      have h5 := ht5.from HX2.out
      rw [HBT.out] at h5
      refine h5.more ?_
      rw [HL.out, HS2.out]
      omega)
    clear ht5 HPS
    go_wp2
    exact bodyPost_end (v := .tuple #[]) (by simp [results, Tryz.results77, go_sem]) rfl ⟨rfl, HEND.out⟩
end
end Go.Proofs.YtiknhkkeifemcaaGreatDoor
