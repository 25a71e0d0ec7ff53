/-
  The program's writer of JSON (package jsonwrite): lists and structs, to any depth. Conditions: those that each theorem names.
-/
import Derived.Test.YtiknhkkeifemcaaGreatDoorPkN47
namespace Go.Proofs.YtiknhkkeifemcaaGreatDoor
open Go.ChangeShapes Go.WideShapes Go.ChangeAt Go.RowKit Go.Shelf

def RsAtJ (D Dv : Nat → Prop) (w : World) (base wk ak mk : Nat) (rv cv : Value) (A : Option Addr) (L : Int) (enc : List Int) (pay : Int) (rs : List (SRec × Value)) (cs : List (SCho × Value)) (nx : NextJ) (fs : List SFld) (q : PV) (c i : Value) (W : World) : Prop :=
  ∃ (j : Nat) (A' : Option Addr), j ≤ fs.length ∧ i = .int .i64 j ∧ c = .string (comS (accJ (jChos cs) nx fs q j)) ∧ JwAll D Dv W base wk ak mk rv cv A' L (enc ++ 123 :: accJ (jChos cs) nx fs q j) (pay + 2 + j + 20 * (accJ (jChos cs) nx fs q j).length) rs cs ∧ Fx wk ak mk A A' w W
set_option maxRecDepth 100000 in
set_option maxHeartbeats 8000000 in
theorem jstruct_any {D Dv : Nat → Prop} {w : World} {base wk ak mk : Nat} {rv cv : Value} {A : Option Addr} {L : Int} {enc : List Int} {pay : Int} {rs : List (SRec × Value)} {cs : List (SCho × Value)} {v : Value} {ref : Nat} {q : PV} (hall : JwAll D Dv w base wk ak mk rv cv A L enc pay rs cs) (hif : ∃ T r, v = .iface T r) (href : ref < rs.length) (nx : NextJ)
    (hel : ∀ (W : World) (A' : Option Addr) (enc' : List Int) (pay' : Int) (S : ByteArray) (p : Nat) (hp : p < rs[ref].1.fields.length), S.size ≤ 10 → OutD Dv w W → JwAll D Dv W base wk ak mk rv cv A' L enc' pay' rs cs →
      Calls Tryz.prog 75 #[.pointer (some ⟨wk, 0, none⟩), .string S, .agg #[.string (rs[ref].1.fields[p]'hp).name, .int .i64 p, .int .u8 (rs[ref].1.fields[p]'hp).kind, .int .i64 ((rs[ref].1.fields[p]'hp).ref : Nat), .int .i64 ((rs[ref].1.fields[p]'hp).lists : Nat)], v] W fun e w' => e = .returned (.bool (putsJ (rs[ref].1.fields[p]'hp).kind ((rs[ref].1.fields[p]'hp).lists : Nat) (kidN q p))) ∧ JwTo base wk ak mk rv cv A' L (enc' ++ fldJ (jChos cs) nx (bts S) (rs[ref].1.fields[p]'hp) (kidN q p)) (pay' + 20 * (fldJ (jChos cs) nx (bts S) (rs[ref].1.fields[p]'hp) (kidN q p)).length) W w') :
    Calls Tryz.prog 37 #[.pointer (some ⟨wk, 0, none⟩), .int .i64 ref, v] w (PutJ base wk ak mk rv cv A L enc pay (strJ (jRecs rs) (jChos cs) nx ref q) w) := by
  obtain ⟨T, rr, rfl⟩ := hif
  have HA := Lib.hid hall
  obtain ⟨fs, hfs⟩ : ∃ fs, rs[ref].1.fields = fs := ⟨_, rfl⟩
  have HFS := Lib.hid hfs
  have hfew := (hall.ctx.few.2.1 _ (List.getElem_mem href)).1
  rw [hfs] at hfew
  have HEL : Hid (∀ (W : World) (A' : Option Addr) (enc' : List Int) (pay' : Int) (S : ByteArray) (p : Nat) (hp : p < fs.length), S.size ≤ 10 → OutD Dv w W → JwAll D Dv W base wk ak mk rv cv A' L enc' pay' rs cs →
      Calls Tryz.prog 75 #[.pointer (some ⟨wk, 0, none⟩), .string S, .agg #[.string (fs[p]'hp).name, .int .i64 p, .int .u8 (fs[p]'hp).kind, .int .i64 ((fs[p]'hp).ref : Nat), .int .i64 ((fs[p]'hp).lists : Nat)], .iface T rr] W fun e w' => e = .returned (.bool (putsJ (fs[p]'hp).kind ((fs[p]'hp).lists : Nat) (kidN q p))) ∧ JwTo base wk ak mk rv cv A' L (enc' ++ fldJ (jChos cs) nx (bts S) (fs[p]'hp) (kidN q p)) (pay' + 20 * (fldJ (jChos cs) nx (bts S) (fs[p]'hp) (kidN q p)).length) W w') := by
    subst hfs
    exact Lib.hid hel
  have HE : Hid (strJ (jRecs rs) (jChos cs) nx ref q = 123 :: (fldsJ (jChos cs) nx fs q (ordJ fs) [] ++ [125])) := Lib.hid (by
    have hr : recJ (jRecs rs) (ref : Int) = fs := by
      unfold recJ jRecs
      rw [Int.toNat_natCast, List.getD, List.getElem?_map, List.getElem?_eq_getElem href, ← hfs]
      rfl
    unfold strJ
    rw [hr])
  obtain ⟨o, ho⟩ : ∃ o, strJ (jRecs rs) (jChos cs) nx ref q = o := ⟨_, rfl⟩
  rw [ho] at HE ⊢
  have HOL : Hid (o.length = (fldsJ (jChos cs) nx fs q (ordJ fs) []).length + 2) := Lib.hid (by rw [HE.out, List.length_cons, List.length_append]; rfl)
  have HP := Lib.hid (jpay_any hall.at_ 1 (by omega))
  have HOR := Lib.hid (ordJ_len fs)
  have HROW := Lib.hid (fun (W : World) (A' : Option Addr) (enc' : List Int) (pay' : Int) (h : JwAll D Dv W base wk ak mk rv cv A' L enc' pay' rs cs) => show W.ownsRow 0 147 5 rs[ref].2 (ordJ fs).length ((ordJ fs).flatMap (jfCell fs)) by
    have h1 := (h.ctx.rows W (OutD.refl _ _)).1.rec_ _ (List.getElem_mem href)
    rw [hfs] at h1
    rw [ordJ_len]
    exact h1)
  clear hall hel ho hfs
  go_enter Tryz.func37, Tryz.ntmps37
  go_wp2_with fail
  refine HP.out.mono ?_
  intro e W2 hp
  obtain ⟨bb, rfl, hgo, hoff, hx⟩ := hp.bool
  have HX2 := Lib.hid hx
  clear hp hx
  cases bb
  · have HEND := Lib.hid (show JwTo base wk ak mk rv cv A L (enc ++ o) (pay + 20 * o.length) w W2 from ⟨A, .inr ((hoff rfl).more (by rw [List.length_append]; omega) (by rw [HOL.out]; omega)), HX2.out⟩)
    clear hgo hoff HP
    go_wp2
    exact bodyPost_ret (v := .tuple #[]) (by simp [results, Tryz.results37, go_sem]) rfl ⟨rfl, HEND.out⟩
  have HPS := Lib.hid (jputs_any (.inl (hgo rfl)) ⟨#[123]⟩ (by decide))
  clear hgo hoff HP
  go_wp2_with fail
  refine HPS.out.mono ?_
  rintro e W3 ⟨rfl, ht3⟩
  obtain ⟨A3, hA3, hx3⟩ := HA.out.to (ht3.from HX2.out)
  have HX3 := Lib.hid hx3
  have HA3 := Lib.hid hA3
  have HRC := Lib.hid (jrec_any hA3.at_ hA3.ctx ref href)
  obtain ⟨ga, gc, hgv⟩ := ownsRow_form (HROW.out W3 _ _ _ hA3)
  rw [HOR.out] at hgv
  rw [hgv] at HRC
  have HGV := Lib.hid hgv
  clear ht3 hA3 hx3 HPS hgv
  go_wp2_with fail
  refine HRC.out.mono ?_
  rintro e W4 ⟨rfl, rfl⟩
  have HST : Hid (RsAtJ D Dv w base wk ak mk rv cv A L enc pay rs cs nx fs q (.string ⟨#[]⟩) (.int .i64 ((0 : Nat) : Int)) W3) := Lib.hid ⟨0, A3, Nat.zero_le _, rfl, rfl, by
    have h := HA3.out
    have e1 : enc ++ bts ⟨#[123]⟩ = enc ++ 123 :: accJ (jChos cs) nx fs q 0 := rfl
    rw [e1] at h
    have e2 : pay + 1 + ((⟨#[123]⟩ : ByteArray).size : Nat) = pay + 2 + ((0 : Nat) : Int) + 20 * ((accJ (jChos cs) nx fs q 0).length : Nat) := by show pay + 1 + 1 = pay + 2 + 0 + 20 * 0; omega
    rw [e2] at h
    exact h, HX3.out⟩
  clear HRC HA3 HX3 HX2
  go_wp2_with fail
  go_loopw [6, 22] (fun c i wr => RsAtJ D Dv w base wk ak mk rv cv A L enc pay rs cs nx fs q c i wr) (fun _ i _ => fs.length - (intOf i).toNat)
  case atStart => exact HST.out
  case round =>
    clear HST
    obtain ⟨j, A5, hj, rfl, rfl, hA5, hx5⟩ := hrel
    have HX5 := Lib.hid hx5
    have HA5 := Lib.hid hA5
    have hj0 : (0 : Int) ≤ j := Int.natCast_nonneg j
    have HLE := Lib.hid (accJ_le (jChos cs) nx fs q j)
    by_cases hlt : j < fs.length
    · have hji : (j : Int) < fs.length := by omega
      have hjo : j < (ordJ fs).length := by rw [HOR.out]; exact hlt
      obtain ⟨g, cc, hv, hcc, hg, hcell⟩ := row_el (jfCell fs) 5 (fun _ => rfl) (HROW.out wr _ _ _ hA5) j hjo
      rw [HGV.out] at hv
      rw [HOR.out] at hv
      obtain ⟨rfl, rfl⟩ := slice_inj hv
      obtain ⟨p, hp⟩ : ∃ p, (ordJ fs)[j] = p := ⟨_, rfl⟩
      have hpl : p < fs.length := ordJ_lt fs (by rw [← hp]; exact List.getElem_mem hjo)
      have hgp : fs.getD p noSF = fs[p] := by rw [List.getD, List.getElem?_eq_getElem hpl]; rfl
      have HSTEP : Hid (accJ (jChos cs) nx fs q (j + 1) = accJ (jChos cs) nx fs q j ++ fldJ (jChos cs) nx (comJ (accJ (jChos cs) nx fs q j)) fs[p] (kidN q p)) := Lib.hid (by rw [accJ_step _ _ _ _ hjo, hp, hgp])
      rw [hp] at hcell
      have y0 : wr.cell? ⟨g, j * 5, none⟩ = some (.string fs[p].name) := by have h := hcell 0 (by omega); rw [show jfCell fs p = _ from rfl] at h; rw [← hgp]; exact h
      have y1 : wr.cell? ⟨g, j * 5 + 1, none⟩ = some (.int .i64 (p : Int)) := hcell 1 (by omega)
      have y2 : wr.cell? ⟨g, j * 5 + 2, none⟩ = some (.int .u8 (fs[p].kind : Nat)) := by rw [← hgp]; exact hcell 2 (by omega)
      have y3 : wr.cell? ⟨g, j * 5 + 3, none⟩ = some (.int .i64 (fs[p].ref : Nat)) := by rw [← hgp]; exact hcell 3 (by omega)
      have y4 : wr.cell? ⟨g, j * 5 + 4, none⟩ = some (.int .i64 (fs[p].lists : Nat)) := by rw [← hgp]; exact hcell 4 (by omega)
      have HFE := Lib.hid (fun W A' enc' pay' S hS hW hA => HEL.out W A' enc' pay' S p hpl hS hW hA)
      have HCN := Lib.hid (comS_next (jChos cs) nx fs[p] (kidN q p) (accJ (jChos cs) nx fs q j))
      generalize fs[p] = f at *
      obtain ⟨fn, fk, fr, fl, fd⟩ := f
      simp only at y0 y2 y3 y4 HFE HCN
      clear hcell hv hA5 hx5 hp hgp
      go_upto_region 8 with (fail)
      have hba : Below wr.heap.size wr (wr.alloc (.cells #[.string fn, .int .i64 p, .int .u8 fk, .int .i64 (fr : Nat), .int .i64 (fl : Nat)] 147)) := (Below.refl _ _).alloc (Nat.le_refl _) _
      have HB6 := Lib.hid hba
      have HQ6 := Lib.hid (heap_alloc_new wr (.cells #[.string fn, .int .i64 p, .int .u8 fk, .int .i64 (fr : Nat), .int .i64 (fl : Nat)] 147))
      have HA6 := Lib.hid (HA5.out.below hba)
      have HWL : Hid (wr.heap.size ≠ wk ∧ wr.heap.size ≠ ak ∧ wr.heap.size ≠ mk ∧ some wr.heap.size ≠ rowOf A5) := Lib.hid (by
        have := HA5.out.at_.lts
        refine ⟨by omega, by omega, by omega, fun e => ?_⟩
        have := this.2.2.2.1 _ e.symm
        omega)
      clear y0 y1 y2 y3 y4 hba HA5
      generalize wr.alloc (.cells #[.string fn, .int .i64 p, .int .u8 fk, .int .i64 (fr : Nat), .int .i64 (fl : Nat)] 147) = W6 at *
      have HP6 := Lib.hid (jpay_any HA6.out.at_ 1 (by omega))
      go_wp2_with fail
      refine HP6.out.mono ?_
      intro e W7 hp
      obtain ⟨bb, rfl, hgo, hoff, hx⟩ := hp.bool
      have HX7 := Lib.hid hx
      clear hp hx
      cases bb
      · have HEND := Lib.hid (show JwTo base wk ak mk rv cv A L (enc ++ o) (pay + 20 * o.length) w W7 from ⟨A5, .inr ((hoff rfl).more (by rw [List.length_append, List.length_append, List.length_cons, HOL.out]; have := HLE.out; omega) (by rw [HOL.out]; have := HLE.out; omega)), (HX5.out.trans (.of_below A5 HB6.out)).trans HX7.out⟩)
        clear hgo hoff HP6
        go_wp2
        exact bodyPost_ret (v := .tuple #[]) (by simp [results, Tryz.results37, go_sem]) rfl ⟨rfl, HEND.out⟩
      have HA7 : Hid (JwAll D Dv W7 base wk ak mk rv cv A5 L (enc ++ 123 :: accJ (jChos cs) nx fs q j) (pay + 2 + j + 20 * (accJ (jChos cs) nx fs q j).length + 1) rs cs) := Lib.hid ⟨.inl (hgo rfl), HA6.out.ctx.step HX7.out, (HA6.out.seen.step HX7.out).1⟩
      obtain ⟨y0, y1, y2, y3, y4⟩ := blk5q (HX7.out.blk HQ6.out HWL.out.1 HWL.out.2.1 HWL.out.2.2.1 HWL.out.2.2.2)
      have HX8 := Lib.hid ((HX5.out.trans (.of_below A5 HB6.out)).trans HX7.out)
      have HNU := Lib.hid (HFE.out W7 A5 _ _ (comS (accJ (jChos cs) nx fs q j)) (comS_size _) ((HA.out.seen.step HX8.out).2) HA7.out)
      obtain ⟨pj, hpj⟩ : ∃ pj, putsJ fk (fl : Nat) (kidN q p) = pj := ⟨_, rfl⟩
      rw [hpj] at HNU HCN
      obtain ⟨S5, hS5⟩ : ∃ S5, comS (accJ (jChos cs) nx fs q j) = S5 := ⟨_, rfl⟩
      rw [hS5] at HNU HCN ⊢
      have HS5 := Lib.hid hS5
      clear hgo hoff HP6 hpj hS5
      go_wp2_with fail
      refine HNU.out.mono ?_
      rintro e W8 ⟨rfl, ht8⟩
      obtain ⟨A8, hA8, hx8⟩ := HA7.out.to ht8
      have HEN := Lib.hid (show RsAtJ D Dv w base wk ak mk rv cv A L enc pay rs cs nx fs q (.string (if pj = true then ⟨#[44]⟩ else S5)) (.int .i64 ((j + 1 : Nat) : Int)) W8 from ⟨j + 1, A8, hlt, rfl, by rw [HSTEP.out, HCN.out], by
        have e1 : enc ++ 123 :: accJ (jChos cs) nx fs q j ++ fldJ (jChos cs) nx (bts S5) ⟨fn, fk, fr, fl, fd⟩ (kidN q p) = enc ++ 123 :: accJ (jChos cs) nx fs q (j + 1) := by rw [HSTEP.out, ← HS5.out, comS_bts]; simp
        rw [e1] at hA8
        refine ⟨hA8.at_.more ?_, hA8.ctx, hA8.seen⟩
        have e2 := congrArg List.length e1
        rw [List.length_append, List.length_append, List.length_append, List.length_cons, List.length_cons] at e2
        omega, HX8.out.trans hx8⟩)
      clear ht8 hA8 hx8 HNU y0 y1 y2 y3 y4
      cases pj
      · go_wp2
        go_roundw
        case rel => exact HEN.out
        case measure => simp [intOf]; omega
      · go_wp2
        go_roundw
        case rel => exact HEN.out
        case measure => simp [intOf]; omega
    · have hjn : j = fs.length := by omega
      have hji : ¬ (j : Int) < fs.length := by omega
      have HPE := Lib.hid (jputs_any hA5.at_ ⟨#[125]⟩ (by decide))
      have HJN := Lib.hid hjn
      have hj16 : j ≤ 16 := by omega
      clear hA5 hx5 hjn
      go_wp2_with fail
      refine HPE.out.mono ?_
      rintro e W6 ⟨rfl, ht6⟩
      have HEND := Lib.hid (show JwTo base wk ak mk rv cv A L (enc ++ o) (pay + 20 * o.length) w W6 by
        have h6 := ht6.from HX5.out
        have e0 : accJ (jChos cs) nx fs q j = fldsJ (jChos cs) nx fs q (ordJ fs) [] := by unfold accJ; rw [List.take_of_length_le (by rw [HOR.out, HJN.out]; exact Nat.le_refl _)]
        have e1 : enc ++ 123 :: accJ (jChos cs) nx fs q j ++ bts ⟨#[125]⟩ = enc ++ o := by rw [HE.out, ← e0, List.append_assoc]; rfl
        rw [e1] at h6
        refine h6.more ?_
        rw [HOL.out, ← e0]
        show pay + 2 + j + 20 * ((accJ (jChos cs) nx fs q j).length : Nat) + 1 ≤ _
        omega)
      clear ht6 HPE
      go_wp2
      exact bodyPost_end (v := .tuple #[]) (by simp [results, Tryz.results37, go_sem]) rfl ⟨rfl, HEND.out⟩
end Go.Proofs.YtiknhkkeifemcaaGreatDoor
namespace Go.Proofs.YtiknhkkeifemcaaGreatDoor
open Go.ChangeShapes Go.WideShapes Go.ChangeAt Go.RowKit Go.Shelf

theorem jcRecs_at {rs : List (SRec × Value)} {i : Nat} (hi : i < rs.length) : (recAt (jcRecs rs) ((i : Nat) : Int)).fields = rs[i].1.fields.map cF := by
  unfold recAt jcRecs jRecs
  rw [Int.toNat_natCast, List.getD, List.getElem?_map, List.getElem?_map, List.getElem?_eq_getElem hi]
  rfl
theorem kidN_at (q : PV) (j : Nat) (hj : j < q.kids.length) : kidN q j = q.kids[j] := by
  unfold kidN
  rw [Int.toNat_natCast, List.getD, List.getElem?_eq_getElem hj, Option.getD_some]
theorem jsort_list {k : Nat} {lists : Int} (h : sortP k lists = 3) : 0 < lists := by
  unfold sortP at h
  split at h
  · assumption
  split at h
  · cases h
  split at h
  · cases h
  split at h
  · cases h
  split at h <;> cases h
theorem jlist_step {r : Nat} {nx : List SRec → List SCho → NextJ} (henc : ∀ ss es k ref lists q, sortP k lists = 3 → encJ ss es r k ref lists q = listF es (nx ss es) k ref lists q)
    (hel : ∀ (D Dv : Nat → Prop) (w : World) (base wk ak mk : Nat) (rv cv : Value) (A : Option Addr) (L : Int) (enc : List Int) (pay : Int) (rs : List (SRec × Value)) (cs : List (SCho × Value)) (v : Value) (k ref : Nat) (lists : Int) (q : PV),
      ShownD (jcRecs rs) r Dv w v k ref lists q → TyJ rs.length k ref lists → SmallJ q → sortP k lists = 3 → ∀ (j : Nat), j < q.kids.length → JwAll D Dv w base wk ak mk rv cv A L enc pay rs cs →
      Calls Tryz.prog 71 #[.pointer (some ⟨wk, 0, none⟩), .agg #[.int .u8 k, .int .i64 ref, .int .i64 (lists - 1)], v, .int .i64 j] w (PutJ base wk ak mk rv cv A L enc pay (elemJ (jChos cs) (nx (jRecs rs) (jChos cs)) k ref (lists - 1) (kidN q j)) w)) : ListJAt r := by
  intro D Dv w base wk ak mk rv cv A L enc pay rs cs v k ref lists q hall hsh hty hsm hs
  have hv : ListHeadD Dv w v q := by
    cases r with
    | zero => exact hsh.2.1
    | succ r =>
      rcases hsh with ⟨_, h, _⟩ | ⟨h, _⟩
      · exact h
      · omega
  rw [henc _ _ _ _ _ _ hs]
  exact jlist_any hall hv ⟨jsort_list hs, hty.2.2.1⟩ hs hsm.few.1 (fun j : Nat => elemJ (jChos cs) (nx (jRecs rs) (jChos cs)) k ref (lists - 1) (kidN q j)) (fun W A' enc' pay' j hj hW hA => hel D Dv W base wk ak mk rv cv A' L enc' pay' rs cs v k ref lists q (hsh.later _ hW) hty hsm hs j hj hA)
theorem jw_all : ∀ r, ListJAt r ∧ StructJAt r
  | 0 => by
    refine ⟨jlist_step (nx := fun _ _ _ _ _ _ => []) (fun ss es k ref lists q hs => ?_) ?_, ?_⟩
    · show conJ ss es _ k ref lists q = _
      unfold conJ
      rw [if_pos hs]
    · intro D Dv w base wk ak mk rv cv A L enc pay rs cs v k ref lists q hsh _ _ _ j hj _
      rw [hsh.2.2] at hj
      exact absurd hj (Nat.not_lt_zero j)
    · intro D Dv w base wk ak mk rv cv A L enc pay rs cs v k ref lists q _ hsh _ _ hs
      have := hsh.1
      omega
  | r + 1 => by
    obtain ⟨hL, hS⟩ := jw_all r
    have hK := jkid_step hL
    have hE := jelem_step hK hS
    have hF := jfield_step hK hS
    refine ⟨jlist_step (nx := fun ss es => encJ ss es r) (fun ss es k ref lists q hs => ?_) ?_, ?_⟩
    · show conJ ss es _ k ref lists q = _
      unfold conJ
      rw [if_pos hs]
    · intro D Dv w base wk ak mk rv cv A L enc pay rs cs v k ref lists q hsh hty hsm hs j hj hA
      have hl := jsort_list hs
      obtain ⟨hk, hl0, hl1, hr, hr2⟩ := hty
      rcases hsh with ⟨_, _, h3⟩ | ⟨h, _⟩
      · rw [kidN_at q j hj]
        exact hE D Dv w base wk ak mk rv cv A L enc pay rs cs v j k ref (lists - 1) _ hA (h3 j hj) ⟨hk, by omega, by omega, hr, hr2⟩ (hsm.few.2.2.2 _ (List.getElem_mem hj)) (by have := hsm.few.1; omega)
      · omega
    · intro D Dv w base wk ak mk rv cv A L enc pay rs cs v k ref lists q hall hsh hty hsm hs
      have he : encJ (jRecs rs) (jChos cs) (r + 1) k ref lists q = strJ (jRecs rs) (jChos cs) (encJ (jRecs rs) (jChos cs) r) ref q := by
        show conJ (jRecs rs) (jChos cs) _ k ref lists q = _
        unfold conJ
        rw [if_neg (by omega)]
      rw [he]
      obtain ⟨h2, hask⟩ : StructHead (jcRecs rs) v ref q ∧ ∀ j (hj : j < q.kids.length) (hf : j < (recAt (jcRecs rs) ref).fields.length), AskD (ShownD (jcRecs rs) r) Dv true w v j ((recAt (jcRecs rs) ref).fields[j]'hf).kind ((recAt (jcRecs rs) ref).fields[j]'hf).ref ((recAt (jcRecs rs) ref).fields[j]'hf).lists (q.kids[j]'hj) := by
        rcases hsh with ⟨h, _⟩ | ⟨_, h2, h3⟩
        · omega
        · exact ⟨h2, h3⟩
      have href : ref < rs.length := by
        have h := h2.within.2
        have hl : (jcRecs rs).length = rs.length := by unfold jcRecs jRecs; rw [List.length_map, List.length_map]
        rw [hl] at h
        omega
      refine jstruct_any hall h2.there href (encJ (jRecs rs) (jChos cs) r) (fun W A' enc' pay' S j hj hSz hW hA => ?_)
      have hlen : q.kids.length = rs[ref].1.fields.length := by
        rw [h2.few, jcRecs_at href, List.length_map]
      have hj1 : j < q.kids.length := by omega
      have hj2 : j < (recAt (jcRecs rs) ref).fields.length := by rw [jcRecs_at href, List.length_map]; exact hj
      have h3 := (hask j hj1 hj2).later hW
      have hfe : (recAt (jcRecs rs) ref).fields[j]'hj2 = cF (rs[ref].1.fields[j]'hj) := by
        have h4 : (recAt (jcRecs rs) ref).fields[j]? = some (cF (rs[ref].1.fields[j]'hj)) := by rw [jcRecs_at href, List.getElem?_map, List.getElem?_eq_getElem hj]; rfl
        rw [List.getElem?_eq_getElem hj2] at h4
        exact Option.some.inj h4
      rw [hfe] at h3
      rw [kidN_at q j hj1]
      have hfew := hA.ctx.few.2.1 _ (List.getElem_mem href)
      exact hF D Dv W base wk ak mk rv cv A' L enc' pay' rs cs v S j _ _ hA h3 (hall.ctx.ok _ (List.getElem_mem href) _ (List.getElem_mem hj)) (hsm.few.2.2.2 _ (List.getElem_mem hj1)) (by omega) hSz (by have := hfew.2 _ (List.getElem_mem hj); omega)
end Go.Proofs.YtiknhkkeifemcaaGreatDoor
