/-
  What Align, Put and Bytes do to an arena, each by a walk of its text. Conditions: those that each theorem names.
-/
import Derived.Test.YtennhmaiecfgpaaRoom
namespace Go.Proofs.Ytennhmaiecfgpaa
open Go.ChangeShapes Go.WideShapes Go.ChangeAt Go.RowKit

theorem align_yes {w : World} {base b : Nat} {A : Option Addr} {cap : Nat} {zs : List Int} {most n : Int} (h : IsArena w base b A cap zs most false) (h1 : 1 ≤ n) (h2 : n ≤ 9223372036854775807) (hfit : lack zs.length n ≤ most - zs.length) (hbase : base ≤ w.heap.size) :
    Calls Try.prog 14 #[.pointer (some ⟨b, 0, none⟩), .int .i64 n] w fun e w' => e = .returned (.bool true) ∧ Stepped w w' base b A (zs ++ zeros (lack zs.length n).toNat) most false := by
  have hlb := lack_bd zs.length n h1
  have r0 := Int.tmod_nonneg n (show (0 : Int) ≤ zs.length by omega)
  have r1 := Int.tmod_lt_of_pos (zs.length : Int) (show 0 < n by omega)
  have H := Lib.hid h
  obtain ⟨r, hr⟩ : ∃ r, (zs.length : Int).tmod n = r := ⟨_, rfl⟩
  rw [hr] at r0 r1
  have hn0 : n ≠ 0 := by omega
  have HR := Lib.hid (room_yes h hlb.1 hfit hbase)
  have hlk : lack zs.length n = if r = 0 then 0 else n - r := by unfold lack; rw [hr]
  have HK := Lib.hid hlk
  by_cases h0 : r = 0
  · subst h0
    rw [if_pos rfl] at hlk
    rw [hlk] at HR
    rw [HK.out, if_pos rfl]
    clear h hlb hfit hlk HK r0 r1
    go_enter Try.func14, Try.ntmps14
    go_wp2_with (first | (go_at_call 18; refine (len_any H.out).mono ?_; rintro e w' ⟨rfl, rfl⟩) | (go_at_call 9; refine HR.out.mono ?_; rintro e w' ⟨rfl, hst⟩; have HST := Lib.hid hst; clear hst))
    go_ret
    exact ⟨rfl, HST.out⟩
  · rw [if_neg h0] at hlk
    rw [hlk] at HR
    rw [HK.out, if_neg h0]
    have hrp : 0 < r := by omega
    clear h hlb hfit hlk HK h0
    go_enter Try.func14, Try.ntmps14
    go_wp2_with (first | (go_at_call 18; refine (len_any H.out).mono ?_; rintro e w' ⟨rfl, rfl⟩) | (go_at_call 9; refine HR.out.mono ?_; rintro e w' ⟨rfl, hst⟩; have HST := Lib.hid hst; clear hst))
    go_ret
    exact ⟨rfl, HST.out⟩
theorem align_no {w : World} {base b : Nat} {A : Option Addr} {cap : Nat} {zs : List Int} {most n : Int} {over : Bool} (h : IsArena w base b A cap zs most over) (h1 : 1 ≤ n) (h2 : n ≤ 9223372036854775807) (hno : over = true ∨ most - zs.length < lack zs.length n) :
    Calls Try.prog 14 #[.pointer (some ⟨b, 0, none⟩), .int .i64 n] w fun e w' => e = .returned (.bool false) ∧ Stepped w w' base b A zs most true := by
  have r0 := Int.tmod_nonneg n (show (0 : Int) ≤ zs.length by omega)
  have r1 := Int.tmod_lt_of_pos (zs.length : Int) (show 0 < n by omega)
  have H := Lib.hid h
  obtain ⟨r, hr⟩ : ∃ r, (zs.length : Int).tmod n = r := ⟨_, rfl⟩
  rw [hr] at r0 r1
  have hn0 : n ≠ 0 := by omega
  have HR := Lib.hid (room_no (n := lack zs.length n) h (by rcases hno with h | h; exact .inl h; exact .inr (.inr h)))
  have hlk : lack zs.length n = if r = 0 then 0 else n - r := by unfold lack; rw [hr]
  by_cases h0 : r = 0
  · subst h0
    rw [if_pos rfl] at hlk
    rw [hlk] at HR
    clear h hno hlk r0 r1
    go_enter Try.func14, Try.ntmps14
    go_wp2_with (first | (go_at_call 18; refine (len_any H.out).mono ?_; rintro e w' ⟨rfl, rfl⟩) | (go_at_call 9; refine HR.out.mono ?_; rintro e w' ⟨rfl, hst⟩; have HST := Lib.hid hst; clear hst))
    go_ret
    exact ⟨rfl, HST.out⟩
  · rw [if_neg h0] at hlk
    rw [hlk] at HR
    have hrp : 0 < r := by omega
    clear h hno hlk h0
    go_enter Try.func14, Try.ntmps14
    go_wp2_with (first | (go_at_call 18; refine (len_any H.out).mono ?_; rintro e w' ⟨rfl, rfl⟩) | (go_at_call 9; refine HR.out.mono ?_; rintro e w' ⟨rfl, hst⟩; have HST := Lib.hid hst; clear hst))
    go_ret
    exact ⟨rfl, HST.out⟩

theorem splice_end (zs news : List Int) : splice (zs ++ zeros news.length) zs.length news = zs ++ news := by
  unfold splice
  have h1 : (zs ++ zeros news.length).take zs.length = zs := List.take_left
  have h2 : (zs ++ zeros news.length).drop (zs.length + news.length) = [] := List.drop_eq_nil_of_le (by simp [zeros])
  rw [h1, h2, List.append_nil]
theorem grown_setRow (w : World) (g : Nat) (cs : Array Value) : w.grownBy (w.setRow g cs) (some g) :=
  ⟨rfl, rfl, rfl, by simp [World.setRow], fun k _ hk => setRow_other w g k cs (fun e => hk (by rw [e]))⟩
theorem put_no {w : World} {base b : Nat} {A : Option Addr} {cap : Nat} {zs : List Int} {most : Int} {over : Bool} (h : IsArena w base b A cap zs most over) (S : Option Addr) (m c : Nat) (hno : over = true ∨ most - zs.length < m) :
    Calls Try.prog 10 #[.pointer (some ⟨b, 0, none⟩), .slice S m c] w fun e w' => e = .returned (.tuple #[.int .i64 0, .bool false]) ∧ Stepped w w' base b A zs most true := by
  have HR := Lib.hid (room_no (n := (m : Int)) h (by rcases hno with h | h; exact .inl h; exact .inr (.inr h)))
  clear h hno
  go_enter Try.func10, Try.ntmps10
  go_wp2_with (go_at_call 9; refine HR.out.mono ?_; rintro e w' ⟨rfl, hst⟩; have HST := Lib.hid hst; clear hst)
  go_ret2
  exact ⟨rfl, HST.out⟩
theorem put_yes {w : World} {base b : Nat} {A : Option Addr} {cap : Nat} {zs news : List Int} {most : Int} (h : IsArena w base b A cap zs most false) (S : Option Addr) (m c : Nat) (hfit : (m : Int) ≤ most - zs.length) (hbase : base ≤ w.heap.size) (hm : news.length = m)
    (hsrc : ∀ w', Moved w w' b (rowOf A) → SrcRow w' S m c (u8s news)) :
    Calls Try.prog 10 #[.pointer (some ⟨b, 0, none⟩), .slice S m c] w fun e w' => e = .returned (.tuple #[.int .i64 zs.length, .bool true]) ∧ Stepped w w' base b A (zs ++ news) most false := by
  have HR := Lib.hid (room_yes (n := (m : Int)) h (by omega) hfit hbase)
  have HS := Lib.hid hsrc
  have hzb := h.fits
  have hbd := h.bound
  have hll : (zs ++ zeros m).length = zs.length + m := by simp [zeros]
  have HLL := Lib.hid hll
  have HMM := Lib.hid hm
  clear h hsrc hm hll
  go_enter Try.func10, Try.ntmps10
  go_wp2_with fail
  refine HR.out.mono ?_
  rintro e w1 ⟨rfl, A1, cap1, hA1, hm1, hf1⟩
  rw [Int.toNat_natCast] at hA1
  have H1 := Lib.hid hA1
  have HM := Lib.hid hm1
  have HF := Lib.hid hf1
  have c0 := hA1.c0
  rw [HLL.out] at c0
  clear hm1 hf1 HR
  by_cases h0 : m = 0
  · subst h0
    have hn : news = [] := List.eq_nil_of_length_eq_zero HMM.out
    subst hn
    have fin : Stepped w w1 base b A (zs ++ []) most false := ⟨A1, cap1, by simpa [zeros] using H1.out, HM.out, HF.out⟩
    have FIN := Lib.hid fin
    clear fin
    have hrun : ∀ (dp : Option Addr) (dl dc : Nat), (Builtin.copy_ #[26, 26] 3 #[.slice dp dl dc, .slice S 0 c]).run Try.prog w1 = .ok (goInt 0) w1 := fun dp dl dc => run_copy_none (P := Try.prog) w1 26 26 3 5 dp S dl dc 0 c Try.underlying26 u8_size (Nat.zero_min dl)
    rcases hA1.own.nil_or with ⟨rfl, rfl, hz⟩ | ⟨g, rfl, hr⟩
    · have hz0 : zs.length = 0 := by have := congrArg List.length hz; simp [zeros] at this; simp [this]
      rw [hz0] at c0
      clear hA1 hz
      go_wp2
      go_ret2
      exact ⟨by rw [hz0]; rfl, FIN.out⟩
    · have hcp := hr.facts.2.2.2.1
      rw [HLL.out] at hcp
      clear hA1 hr
      by_cases he : zs.length = cap1
      · go_wp2
        go_ret2
        exact ⟨by rw [he]; rfl, FIN.out⟩
      · have hlt : zs.length < cap1 := by omega
        go_wp2
        go_ret2
        exact ⟨rfl, FIN.out⟩
  · rcases hA1.own.nil_or with ⟨rfl, rfl, hz⟩ | ⟨g, rfl, hr⟩
    · have := congrArg List.length hz
      simp [zeros] at this
      omega
    · have HRR := Lib.hid hr
      have hcp := hr.facts.2.2.2.1
      rw [HLL.out] at hcp
      obtain ⟨cur, hg, hbg, hn, hmx, hcl, ht, hl⟩ := hr.opened
      rw [HLL.out] at ht
      have HG := Lib.hid hg
      have HT := Lib.hid ht
      have HCL := Lib.hid hcl
      have hs := HS.out w1 HM.out
      obtain ⟨hs1, hs2, hs3⟩ := hs
      rcases hs3 with ⟨rfl, hmz, _⟩ | ⟨ad, rfl, hsc⟩
      · exact absurd hmz h0
      have HSC := Lib.hid hsc
      have hul : (u8s news).length = m := by rw [length_u8s]; exact HMM.out
      have HUL := Lib.hid hul
      have hlt : zs.length < cap1 := by omega
      clear hA1 hr hg hbg hn hmx hcl ht hl hs1 hs2 hsc hul HS
      have hrun := run_copy_row (P := Try.prog) w1 26 26 3 5 g zs.length m (cap1 - zs.length) ad m c cur.toArray 5 (u8s news) Try.underlying26 u8_size HG.out (by rw [HUL.out]; exact (Nat.min_self m).symm) HSC.out (by rw [HUL.out]; simp [HCL.out]; omega) (u8s_one _)
      rw [HUL.out] at hrun
      obtain ⟨w2, hw2⟩ : ∃ w2, w1.setRow g (cur.toArray.toList.take zs.length ++ u8s news ++ cur.toArray.toList.drop (zs.length + m)).toArray = w2 := ⟨_, rfl⟩
      rw [hw2] at hrun
      have HW := Lib.hid hw2
      clear hw2
      go_wp2
      go_ret2
      refine ⟨rfl, Stepped.trans (stepped_store H1.out (zs' := zs ++ news) ?_ ?_) HM.out HF.out⟩
      · have hgg : w2.heap[g]? = some (.cells (splice cur zs.length (u8s news)).toArray 5 (0, 0)) := by
          rw [← HW.out, setRow_heap w1 g cur.toArray _ 5 (0, 0) HG.out]
          simp [splice, HUL.out]
        have hmm := HMM.out
        have hz := splice_end zs news
        rw [hmm] at hz
        rw [← hz]
        refine ownR_of_splice (cur := cur) (a := zs.length) HRR.out.facts.2.1 HRR.out.facts.2.2.2.1 HRR.out.facts.2.2.2.2.1 HCL.out ?_ ?_ ?_ hgg
        · rw [HLL.out]; exact HT.out
        · rfl
        · rw [HLL.out, hmm]; exact Nat.le_refl _
      · rw [← HW.out]; exact grown_setRow w1 g _
theorem OwnV.src {w : World} {base : Nat} {e : TypeId} {A : Option Addr} {cap : Nat} {zs : List Int} (h : OwnV w base e A cap zs) : SrcRow w A zs.length cap (u8s zs) := by
  refine ⟨length_u8s zs, u8s_one zs, ?_⟩
  rcases h.nil_or with ⟨rfl, rfl, rfl⟩ | ⟨g, rfl, hr⟩
  · exact .inl ⟨rfl, rfl, rfl⟩
  · exact .inr ⟨_, rfl, laid_src hr⟩
/-- A copy of a source of m bytes into a row of the call's own, from place a on. -/
theorem copy_src {w : World} {base g n cap a m c ty : Nat} {S : Option Addr} {olds news : List Int} (h : OwnR w base 5 g n cap olds) (hs : SrcRow w S m c (u8s news)) (hfit : a + m ≤ n) (D : Option Addr) (dl dc : Nat) (hd : m ≤ dl) (hD : m = 0 ∨ D = some ⟨g, a, none⟩) :
    ∃ w', (Builtin.copy_ #[26, 26] ty #[.slice D dl dc, .slice S m c]).run Try.prog w = .ok (goInt m) w' ∧ OwnR w' base 5 g n cap (splice olds a news) ∧ w.grownBy w' (some g) := by
  obtain ⟨hl, h1, hA⟩ := hs
  by_cases h0 : m = 0
  · subst h0
    have hn : news = [] := by
      have : (u8s news).length = 0 := hl
      rw [length_u8s] at this
      exact List.eq_nil_of_length_eq_zero this
    subst hn
    refine ⟨w, run_copy_none (P := Try.prog) w 26 26 ty 5 D S dl dc 0 c Try.underlying26 u8_size (Nat.zero_min dl), ?_, World.grownBy.refl w _⟩
    simpa [splice] using h
  · obtain rfl : D = some ⟨g, a, none⟩ := by
      rcases hD with h | h
      · exact absurd h h0
      · exact h
    rcases hA with ⟨_, hm, _⟩ | ⟨ad, rfl, hsc⟩
    · exact absurd hm h0
    obtain ⟨cur, hg, hbg, hn, hmx, hcl, ht, hlo⟩ := h.opened
    have hrun := run_copy_row (P := Try.prog) w 26 26 ty 5 g a dl dc ad m c cur.toArray 5 (u8s news) Try.underlying26 u8_size hg (by rw [hl]; exact (Nat.min_eq_left hd).symm) hsc (by rw [hl]; simp [hcl]; omega) h1
    rw [hl] at hrun
    have hnl : news.length = m := by rw [← length_u8s]; exact hl
    refine ⟨_, hrun, ?_, grown_setRow w g _⟩
    refine ownR_of_splice (cur := cur) (a := a) hbg hn hmx hcl ht hlo (by omega) ?_
    rw [setRow_heap w g cur.toArray _ 5 (0, 0) hg]
    simp [splice, hl]
theorem splice_whole (olds zs : List Int) (h : olds.length = zs.length) : splice olds 0 zs = zs := by
  unfold splice
  rw [List.take_zero, List.nil_append, List.drop_eq_nil_of_le (by omega), List.append_nil]
theorem bytes_no {w : World} {base b : Nat} {A : Option Addr} {cap : Nat} {zs : List Int} {most : Int} (h : IsArena w base b A cap zs most true) :
    Calls Try.prog 19 #[.pointer (some ⟨b, 0, none⟩)] w fun e w' => e = .returned (.tuple #[.slice none 0 0, .bool false]) ∧ w = w' := by
  have c2 := h.c2
  clear h
  go_enter Try.func19, Try.ntmps19
  go_wp2
  go_ret2
  exact ⟨rfl, rfl⟩
theorem bytes_lay {w w2 : World} {base b n : Nat} {A : Option Addr} {cap : Nat} {zs : List Int} {most : Int} {over : Bool} (h : IsArena w base b A cap zs most over) (hn : zs.length = n)
    (hown2 : w2.ownsRow w.heap.size 5 1 (.slice (some ⟨w.heap.size, 0, none⟩) n n) n (madeCells (Value.int .u8 0).cells (n * 1)).toList) (hg2 : w.grownBy w2 none) :
    ∃ w3, (Builtin.copy_ #[26, 26] 3 #[.slice (some ⟨w.heap.size, 0, none⟩) n n, .slice A n cap]).run Try.prog w2 = .ok (goInt n) w3 ∧ OwnR w3 w.heap.size 5 w.heap.size n n zs ∧ Below w.heap.size w w3 := by
  have hro : OwnR w2 w.heap.size 5 w.heap.size n n (zeros n) := by
    unfold OwnR
    rw [← made_zeros]
    rw [Nat.mul_one] at hown2
    exact hown2
  have hsr := (h.own.kept (fun k hk' => hg2.block k (h.own.row k hk').2 (by simp))).src
  rw [hn] at hsr
  obtain ⟨w3, hrun, ho3, hg3⟩ := copy_src (ty := 3) (a := 0) hro hsr (by omega) (some ⟨w.heap.size, 0, none⟩) n n (Nat.le_refl _) (.inr rfl)
  refine ⟨w3, hrun, ?_, ((Below.refl _ _).grown hg2 (Nat.le_refl _) (by simp)).grown hg3 hg2.size (by simp)⟩
  rw [splice_whole _ _ (by rw [hn]; simp [zeros])] at ho3
  exact ho3
theorem bytes_yes {w : World} {base b : Nat} {A : Option Addr} {cap : Nat} {zs : List Int} {most : Int} (h : IsArena w base b A cap zs most false) :
    Calls Try.prog 19 #[.pointer (some ⟨b, 0, none⟩)] w fun e w' => e = .returned (.tuple #[.slice (some ⟨w.heap.size, 0, none⟩) zs.length zs.length, .bool true]) ∧ OwnR w' w.heap.size 5 w.heap.size zs.length zs.length zs ∧ Below w.heap.size w w' := by
  obtain ⟨i0, hi0, hz0, hz1, hz2⟩ := info_parts u8_info
  have I1 := Lib.hid hi0
  have I2 := Lib.hid hz0
  have I3 := Lib.hid hz1
  have I4 := Lib.hid hz2
  have H := Lib.hid h
  have c0 := h.c0
  have c2 := h.c2
  have hzb := h.fits
  have hbd := h.bound
  have hlt := h.lt
  obtain ⟨n, hn⟩ : ∃ n, zs.length = n := ⟨_, rfl⟩
  rw [hn] at c0 hzb ⊢
  have HN := Lib.hid hn
  have hnbd : n ≤ 2147483647 := by omega
  clear hi0 hz0 hz1 hz2 h hn
  go_enter Try.func19, Try.ntmps19
  go_wp2_with (at_make; refine wpList_make_full _ rfl _ _ 26 rfl w.heap.size 5 i0 (.int .u8 0) 1 Try.underlying26 I1.out I2.out I3.out .i64 .i64 _ _ n rfl rfl rfl rfl (by rw [I4.out]; omega) (by unfold maxLen; omega) (Nat.le_refl _) ?_; intro w2 hown2 hg2; have hk := hg2.block _ hlt (by simp); have d0 := (World.cell?_of_block (w := w) (a := ⟨b, 0, none⟩) hk).trans c0; obtain ⟨w3, hrun, ho3, hb3⟩ := bytes_lay H.out HN.out hown2 hg2; have HO3 := Lib.hid ho3; have HB3 := Lib.hid hb3; clear hown2 hg2 hk ho3 hb3)
  go_ret2
  exact ⟨rfl, HO3.out, HB3.out⟩
end Go.Proofs.Ytennhmaiecfgpaa
