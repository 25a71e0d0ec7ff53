/-
  Cells that stay. Conditions: those that each theorem names.
-/
import Derived.Test.YtdlfndjgncdgfaaGreatDoorPkS15
import Derived.Test.YtdlfndjgncdgfaaGreatDoorPkS41
import Derived.IntWalk
namespace Go.Proofs.YtdlfndjgncdgfaaGreatDoor
open Go.ChangeShapes Go.WideShapes Go.ChangeAt Go.RowKit

theorem arr_litCk (t : Array Value) (h : t.size = 201) : t = ((List.range 201).map fun n => t.getD n undef).toArray := by
  apply Array.ext'
  apply List.ext_getElem?
  intro i
  by_cases hi : i < 201
  · have h' : i < t.size := by omega
    simp [hi, h', Array.getD]
  · have h' : ¬ i < t.size := by omega
    simp [hi, h']
set_option maxRecDepth 100000 in
theorem lit_allCk (u : Nat → Value) : ((List.range 201).map u).toArray = #[u 0, u 1, u 2, u 3, u 4, u 5, u 6, u 7, u 8, u 9, u 10, u 11, u 12, u 13, u 14, u 15, u 16, u 17, u 18, u 19, u 20, u 21, u 22, u 23, u 24, u 25, u 26, u 27, u 28, u 29, u 30, u 31, u 32, u 33, u 34, u 35, u 36, u 37, u 38, u 39, u 40, u 41, u 42, u 43, u 44, u 45, u 46, u 47, u 48, u 49, u 50, u 51, u 52, u 53, u 54, u 55, u 56, u 57, u 58, u 59, u 60, u 61, u 62, u 63, u 64, u 65, u 66, u 67, u 68, u 69, u 70, u 71, u 72, u 73, u 74, u 75, u 76, u 77, u 78, u 79, u 80, u 81, u 82, u 83, u 84, u 85, u 86, u 87, u 88, u 89, u 90, u 91, u 92, u 93, u 94, u 95, u 96, u 97, u 98, u 99, u 100, u 101, u 102, u 103, u 104, u 105, u 106, u 107, u 108, u 109, u 110, u 111, u 112, u 113, u 114, u 115, u 116, u 117, u 118, u 119, u 120, u 121, u 122, u 123, u 124, u 125, u 126, u 127, u 128, u 129, u 130, u 131, u 132, u 133, u 134, u 135, u 136, u 137, u 138, u 139, u 140, u 141, u 142, u 143, u 144, u 145, u 146, u 147, u 148, u 149, u 150, u 151, u 152, u 153, u 154, u 155, u 156, u 157, u 158, u 159, u 160, u 161, u 162, u 163, u 164, u 165, u 166, u 167, u 168, u 169, u 170, u 171, u 172, u 173, u 174, u 175, u 176, u 177, u 178, u 179, u 180, u 181, u 182, u 183, u 184, u 185, u 186, u 187, u 188, u 189, u 190, u 191, u 192, u 193, u 194, u 195, u 196, u 197, u 198, u 199, u 200] := rfl
def blockOfC (n : Nat) : Code → Option Code
  | .loop c => blockOfC n c
  | .seq a b => match blockOfC n a with
    | some c => some c
    | none => blockOfC n b
  | .block m c => if m = n then some (.block m c) else blockOfC n c
  | .scope c => blockOfC n c
  | .cond _ a b => match blockOfC n a with
    | some c => some c
    | none => blockOfC n b
  | _ => none
noncomputable def ckSwitch : Code := (Tryz.f4.body.bind (blockOfC 0)).getD .skip
structure CkS (S G k j r n : Nat) (nm : ByteArray) (c : Act) : Prop where
  df : c.defers = []
  sz : c.tmps.size = 201
  s3 : c.tmps.getD 3 undef = .int .u64 n
  s4 : c.tmps.getD 4 undef = .string nm
  s11 : c.tmps.getD 11 undef = .pointer (some ⟨S, 0, none⟩)
  s13 : c.tmps.getD 13 undef = .int .i64 k
  s14 : c.tmps.getD 14 undef = .pointer (some ⟨G, j * 5, none⟩)
  s59 : c.tmps.getD 59 undef = .int .u64 r
set_option maxRecDepth 100000 in
theorem CkS.lit {S G k j r n : Nat} {nm : ByteArray} {c : Act} (h : CkS S G k j r n nm c) : ∃ u : Nat → Value, c = ⟨#[u 0, u 1, u 2, .int .u64 n, .string nm, u 5, u 6, u 7, u 8, u 9, u 10, .pointer (some ⟨S, 0, none⟩), u 12, .int .i64 k, .pointer (some ⟨G, j * 5, none⟩), u 15, u 16, u 17, u 18, u 19, u 20, u 21, u 22, u 23, u 24, u 25, u 26, u 27, u 28, u 29, u 30, u 31, u 32, u 33, u 34, u 35, u 36, u 37, u 38, u 39, u 40, u 41, u 42, u 43, u 44, u 45, u 46, u 47, u 48, u 49, u 50, u 51, u 52, u 53, u 54, u 55, u 56, u 57, u 58, .int .u64 r, u 60, u 61, u 62, u 63, u 64, u 65, u 66, u 67, u 68, u 69, u 70, u 71, u 72, u 73, u 74, u 75, u 76, u 77, u 78, u 79, u 80, u 81, u 82, u 83, u 84, u 85, u 86, u 87, u 88, u 89, u 90, u 91, u 92, u 93, u 94, u 95, u 96, u 97, u 98, u 99, u 100, u 101, u 102, u 103, u 104, u 105, u 106, u 107, u 108, u 109, u 110, u 111, u 112, u 113, u 114, u 115, u 116, u 117, u 118, u 119, u 120, u 121, u 122, u 123, u 124, u 125, u 126, u 127, u 128, u 129, u 130, u 131, u 132, u 133, u 134, u 135, u 136, u 137, u 138, u 139, u 140, u 141, u 142, u 143, u 144, u 145, u 146, u 147, u 148, u 149, u 150, u 151, u 152, u 153, u 154, u 155, u 156, u 157, u 158, u 159, u 160, u 161, u 162, u 163, u 164, u 165, u 166, u 167, u 168, u 169, u 170, u 171, u 172, u 173, u 174, u 175, u 176, u 177, u 178, u 179, u 180, u 181, u 182, u 183, u 184, u 185, u 186, u 187, u 188, u 189, u 190, u 191, u 192, u 193, u 194, u 195, u 196, u 197, u 198, u 199, u 200], []⟩ := by
  obtain ⟨hd, hs, h3, h4, h11, h13, h14, h59⟩ := h
  refine ⟨fun n => c.tmps.getD n undef, ?_⟩
  obtain ⟨t, d⟩ := c
  simp only at hd hs h3 h4 h11 h13 h14 h59 ⊢
  subst hd
  congr 1
  refine (arr_litCk t hs).trans ?_
  rw [lit_allCk]
  simp only [h3, h4, h11, h13, h14, h59]
structure CkT (S : Nat) (c : Act) : Prop where
  df : c.defers = []
  sz : c.tmps.size = 201
  s11 : c.tmps.getD 11 undef = .pointer (some ⟨S, 0, none⟩)
set_option maxRecDepth 100000 in
theorem CkT.lit {S : Nat} {c : Act} (h : CkT S c) : ∃ u : Nat → Value, c = ⟨#[u 0, u 1, u 2, u 3, u 4, u 5, u 6, u 7, u 8, u 9, u 10, .pointer (some ⟨S, 0, none⟩), u 12, u 13, u 14, u 15, u 16, u 17, u 18, u 19, u 20, u 21, u 22, u 23, u 24, u 25, u 26, u 27, u 28, u 29, u 30, u 31, u 32, u 33, u 34, u 35, u 36, u 37, u 38, u 39, u 40, u 41, u 42, u 43, u 44, u 45, u 46, u 47, u 48, u 49, u 50, u 51, u 52, u 53, u 54, u 55, u 56, u 57, u 58, u 59, u 60, u 61, u 62, u 63, u 64, u 65, u 66, u 67, u 68, u 69, u 70, u 71, u 72, u 73, u 74, u 75, u 76, u 77, u 78, u 79, u 80, u 81, u 82, u 83, u 84, u 85, u 86, u 87, u 88, u 89, u 90, u 91, u 92, u 93, u 94, u 95, u 96, u 97, u 98, u 99, u 100, u 101, u 102, u 103, u 104, u 105, u 106, u 107, u 108, u 109, u 110, u 111, u 112, u 113, u 114, u 115, u 116, u 117, u 118, u 119, u 120, u 121, u 122, u 123, u 124, u 125, u 126, u 127, u 128, u 129, u 130, u 131, u 132, u 133, u 134, u 135, u 136, u 137, u 138, u 139, u 140, u 141, u 142, u 143, u 144, u 145, u 146, u 147, u 148, u 149, u 150, u 151, u 152, u 153, u 154, u 155, u 156, u 157, u 158, u 159, u 160, u 161, u 162, u 163, u 164, u 165, u 166, u 167, u 168, u 169, u 170, u 171, u 172, u 173, u 174, u 175, u 176, u 177, u 178, u 179, u 180, u 181, u 182, u 183, u 184, u 185, u 186, u 187, u 188, u 189, u 190, u 191, u 192, u 193, u 194, u 195, u 196, u 197, u 198, u 199, u 200], []⟩ := by
  obtain ⟨hd, hs, h11⟩ := h
  refine ⟨fun n => c.tmps.getD n undef, ?_⟩
  obtain ⟨t, d⟩ := c
  simp only at hd hs h11 ⊢
  subst hd
  congr 1
  refine (arr_litCk t hs).trans ?_
  rw [lit_allCk]
  simp only [h11]
end Go.Proofs.YtdlfndjgncdgfaaGreatDoor
namespace Go.Proofs.YtdlfndjgncdgfaaGreatDoor
open Go.ChangeShapes Go.WideShapes Go.ChangeAt Go.RowKit Go.Shelf

def noCR : CRec × Value := (⟨⟨#[]⟩, []⟩, .slice none 0 0)
structure CkW (base S G k j : Nat) (ss : List (CRec × Value)) (es : List (SCho × Value)) (sa : Option Addr) (sc : Nat) (ea : Option Addr) (ec : Nat) (rt : Int) (w : World) : Prop where
  own : w.heap[S]? = some (.cells #[.slice sa ss.length sc, .slice ea es.length ec, .int .i64 rt] 30 (0, 0))
  rows : CRows base w ss es (.slice sa ss.length sc) (.slice ea es.length ec)
  fits : CFit ss es
  low : base ≤ S
  few : ss.length ≤ 16
  kl : k < ss.length
  fld : ∃ fc, (ss.getD k noCR).2 = .slice (some ⟨G, 0, none⟩) (ss.getD k noCR).1.fields.length fc
  jl : j < (ss.getD k noCR).1.fields.length
  jfew : (ss.getD k noCR).1.fields.length ≤ 16
  efew : es.length ≤ 8
  enames : ∀ q ∈ es, 1 ≤ q.1.names.length ∧ q.1.names.length ≤ 32
theorem row_bk {w : World} {base : Nat} {e : TypeId} {s : Nat} {g n c : Nat} {xs : List Value} (h : w.ownsRow base e s (.slice (some ⟨g, 0, none⟩) n c) n xs) : ∃ cur, w.heap[g]? = some (.cells cur e (0, 0)) ∧ base ≤ g := by
  rcases h.2 with ⟨h1, _⟩ | ⟨g', cap, cur, h1, hb, hg, _⟩
  · cases h1
  · injection h1 with h1
    injection h1 with h1
    injection h1 with h1
    subst h1
    exact ⟨cur, hg, hb⟩
section
variable {K : Act → World → Prop} {Q : Exit → Act → World → Prop} {c : Act} {w : World} {base S G k j n : Nat} {nm : ByteArray} {ss : List (CRec × Value)} {es : List (SCho × Value)} {sa ea : Option Addr} {sc ec : Nat} {rt : Int}
theorem CkW.at (h : CkW base S G k j ss es sa sc ea ec rt w) : ∃ fc, w.ownsRow base 51 5 (.slice (some ⟨G, 0, none⟩) (ss.getD k noCR).1.fields.length fc) (ss.getD k noCR).1.fields.length (cfldsCells (ss.getD k noCR).1.fields) := by
  obtain ⟨fc, hf⟩ := h.fld
  have hm : ss.getD k noCR ∈ ss := by
    rw [List.getD, List.getElem?_eq_getElem h.kl, Option.getD_some]
    exact List.getElem_mem _
  have hr := h.rows.fields _ hm
  rw [hf] at hr
  exact ⟨fc, hr⟩
theorem CkW.field (h : CkW base S G k j ss es sa sc ea ec rt w) : ∃ (cur : Array Value) (f : CFld), w.heap[G]? = some (.cells cur 51 (0, 0)) ∧ base ≤ G ∧ FldFit f ∧ w.cell? ⟨G, j * 5, none⟩ = some (.string f.name) ∧ w.cell? ⟨G, j * 5 + 1, none⟩ = some (.int .u8 f.kind) ∧ w.cell? ⟨G, j * 5 + 2, none⟩ = some (.int .i64 f.ref) ∧ w.cell? ⟨G, j * 5 + 3, none⟩ = some (.int .i64 f.lists) ∧ w.cell? ⟨G, j * 5 + 4, none⟩ = some (.int .u64 f.dflt) := by
  obtain ⟨fc, hr⟩ := h.at
  obtain ⟨cur, hg, hb⟩ := row_bk hr
  obtain ⟨g, cc, hv, _, _, hcell⟩ := row_el cfldCells 5 (fun _ => rfl) hr j h.jl
  obtain ⟨e1, _⟩ := slice_inj hv
  injection e1 with e1
  injection e1 with e1
  subst e1
  have hm : ss.getD k noCR ∈ ss := by
    rw [List.getD, List.getElem?_eq_getElem h.kl, Option.getD_some]
    exact List.getElem_mem _
  exact ⟨cur, _, hg, hb, (h.fits.recs _ hm).2 _ (List.getElem_mem h.jl), hcell 0 (by omega), hcell 1 (by omega), hcell 2 (by omega), hcell 3 (by omega), hcell 4 (by omega)⟩
def AfterCk (K : Act → World → Prop) (S base : Nat) (w : World) : Prop := ∀ c' w', CkT S c' → Ready S w' → Below base w w' → K c' w'
set_option maxRecDepth 100000 in
set_option maxHeartbeats 4000000 in
theorem ck_0 (hc : CkS S G k j 0 n nm c) (h : CkW base S G k j ss es sa sc ea ec rt w) (_hn : n ≤ 18446744073709551615) (_hnm : nm.size ≤ 200) (hK : AfterCk K S base w) : Code.wp Tryz.prog ckSwitch (Exit.then K Q) c w := by
  have HK := Lib.hid hK
  have HB0 := Lib.hid (Below.refl base w)
  obtain ⟨_, z0, z1, z2, f0, f1, f2⟩ := blk3 h.own
  obtain ⟨cur, f, hG, hlow, hfit, x0, x1, x2, x3, x4⟩ := h.field
  have hz := blk_frozen hG (j * 5)
  have HR := Lib.hid (ready_field h.own h.rows h.fits hG j 0 (by omega) (.string nm) (fun f => ⟨nm, f.kind, f.ref, f.lists, f.dflt⟩) (fun _ => rfl) (fun f hf => ⟨hf.1, hf.2.1, by show nm.size ≤ _; omega⟩))
  have HB := Lib.hid (HB0.out.setCell (p := ⟨G, j * 5 + 0, none⟩) hlow (.string nm))
  obtain ⟨u, rfl⟩ := hc.lit
  clear hc h hK _hn _hnm
  conv => arg 2; whnf
  clear hG hlow hfit cur
  go_wp2
  exact HK.out _ _ ⟨rfl, rfl, rfl⟩ HR.out HB.out
set_option maxRecDepth 100000 in
set_option maxHeartbeats 4000000 in
theorem ck_1 (hc : CkS S G k j 1 n nm c) (h : CkW base S G k j ss es sa sc ea ec rt w) (_hn : n ≤ 18446744073709551615) (_hnm : nm.size ≤ 200) (hK : AfterCk K S base w) : Code.wp Tryz.prog ckSwitch (Exit.then K Q) c w := by
  have HK := Lib.hid hK
  have HB0 := Lib.hid (Below.refl base w)
  obtain ⟨_, z0, z1, z2, f0, f1, f2⟩ := blk3 h.own
  obtain ⟨cur, f, hG, hlow, hfit, x0, x1, x2, x3, x4⟩ := h.field
  have hz := blk_frozen hG (j * 5 + 4)
  have HR := Lib.hid (ready_field h.own h.rows h.fits hG j 4 (by omega) (.int .u64 n) (fun f => ⟨f.name, f.kind, f.ref, f.lists, n⟩) (fun _ => rfl) (fun f hf => ⟨hf.1, _hn, hf.2.2⟩))
  have HB := Lib.hid (HB0.out.setCell (p := ⟨G, j * 5 + 4, none⟩) hlow (.int .u64 n))
  obtain ⟨u, rfl⟩ := hc.lit
  clear hc h hK _hn _hnm
  conv => arg 2; whnf
  clear hG hlow hfit cur
  go_wp2
  exact HK.out _ _ ⟨rfl, rfl, rfl⟩ HR.out HB.out
set_option maxRecDepth 100000 in
set_option maxHeartbeats 4000000 in
theorem ck_2 (hc : CkS S G k j 2 n nm c) (h : CkW base S G k j ss es sa sc ea ec rt w) (_hn : n ≤ 18446744073709551615) (_hnm : nm.size ≤ 200) (hK : AfterCk K S base w) : Code.wp Tryz.prog ckSwitch (Exit.then K Q) c w := by
  have HK := Lib.hid hK
  have HB0 := Lib.hid (Below.refl base w)
  obtain ⟨_, z0, z1, z2, f0, f1, f2⟩ := blk3 h.own
  obtain ⟨cur, f, hG, hlow, hfit, x0, x1, x2, x3, x4⟩ := h.field
  have t1 : ((n : Int)).tmod 6 = ((n % 6 : Nat) : Int) := by rw [Int.tmod_eq_emod_of_nonneg (by omega)]; omega
  have t2 : IntKind.i64.wrap ((n % 6 : Nat) : Int) = ((n % 6 : Nat) : Int) := IntWalk.i64_in _ (by omega)
  have hz := blk_frozen hG (j * 5 + 3)
  have HR := Lib.hid (ready_field h.own h.rows h.fits hG j 3 (by omega) (.int .i64 ((n % 6 : Nat) : Int)) (fun f => ⟨f.name, f.kind, f.ref, ((n % 6 : Nat) : Int), f.dflt⟩) (fun _ => rfl) (fun f hf => hf))
  have HB := Lib.hid (HB0.out.setCell (p := ⟨G, j * 5 + 3, none⟩) hlow (.int .i64 ((n % 6 : Nat) : Int)))
  obtain ⟨u, rfl⟩ := hc.lit
  clear hc h hK _hn _hnm
  conv => arg 2; whnf
  clear hG hlow hfit cur
  go_wp2
  exact HK.out _ _ ⟨rfl, rfl, rfl⟩ HR.out HB.out
set_option maxRecDepth 100000 in
set_option maxHeartbeats 4000000 in
theorem ck_3 (hc : CkS S G k j 3 n nm c) (h : CkW base S G k j ss es sa sc ea ec rt w) (_hn : n ≤ 18446744073709551615) (_hnm : nm.size ≤ 200) (hK : AfterCk K S base w) : Code.wp Tryz.prog ckSwitch (Exit.then K Q) c w := by
  have HK := Lib.hid hK
  have HB0 := Lib.hid (Below.refl base w)
  obtain ⟨_, z0, z1, z2, f0, f1, f2⟩ := blk3 h.own
  obtain ⟨cur, f, hG, hlow, hfit, x0, x1, x2, x3, x4⟩ := h.field
  have t1 : ((n : Int)).tmod 20 = ((n % 20 : Nat) : Int) := by rw [Int.tmod_eq_emod_of_nonneg (by omega)]; omega
  have t2 : IntKind.u8.wrap ((n % 20 : Nat) : Int) = ((n % 20 : Nat) : Int) := by rw [IntKind.wrap_u8]; omega
  have hz := blk_frozen hG (j * 5 + 1)
  have HR := Lib.hid (ready_field h.own h.rows h.fits hG j 1 (by omega) (.int .u8 ((n % 20 : Nat) : Int)) (fun f => ⟨f.name, n % 20, f.ref, f.lists, f.dflt⟩) (fun _ => rfl) (fun f hf => ⟨by show n % 20 ≤ 255; omega, hf.2⟩))
  have HB := Lib.hid (HB0.out.setCell (p := ⟨G, j * 5 + 1, none⟩) hlow (.int .u8 ((n % 20 : Nat) : Int)))
  obtain ⟨u, rfl⟩ := hc.lit
  clear hc h hK _hn _hnm
  conv => arg 2; whnf
  clear hG hlow hfit cur
  go_wp2
  exact HK.out _ _ ⟨rfl, rfl, rfl⟩ HR.out HB.out
set_option maxRecDepth 100000 in
set_option maxHeartbeats 4000000 in
theorem ck_4 (hc : CkS S G k j 4 n nm c) (h : CkW base S G k j ss es sa sc ea ec rt w) (_hn : n ≤ 18446744073709551615) (_hnm : nm.size ≤ 200) (hK : AfterCk K S base w) : Code.wp Tryz.prog ckSwitch (Exit.then K Q) c w := by
  have HK := Lib.hid hK
  have HB0 := Lib.hid (Below.refl base w)
  obtain ⟨_, z0, z1, z2, f0, f1, f2⟩ := blk3 h.own
  obtain ⟨cur, f, hG, hlow, hfit, x0, x1, x2, x3, x4⟩ := h.field
  have t1 : ((n : Int)).tmod 20 = ((n % 20 : Nat) : Int) := by rw [Int.tmod_eq_emod_of_nonneg (by omega)]; omega
  have t2 : IntKind.i64.wrap ((n % 20 : Nat) : Int) = ((n % 20 : Nat) : Int) := IntWalk.i64_in _ (by omega)
  have t3 : IntKind.i64.wrap (((n % 20 : Nat) : Int) - 2) = ((n % 20 : Nat) : Int) - 2 := IntWalk.i64_in _ (by omega)
  have hz := blk_frozen hG (j * 5 + 2)
  have HR := Lib.hid (ready_field h.own h.rows h.fits hG j 2 (by omega) (.int .i64 (((n % 20 : Nat) : Int) - 2)) (fun f => ⟨f.name, f.kind, ((n % 20 : Nat) : Int) - 2, f.lists, f.dflt⟩) (fun _ => rfl) (fun f hf => hf))
  have HB := Lib.hid (HB0.out.setCell (p := ⟨G, j * 5 + 2, none⟩) hlow (.int .i64 (((n % 20 : Nat) : Int) - 2)))
  obtain ⟨u, rfl⟩ := hc.lit
  clear hc h hK _hn _hnm
  conv => arg 2; whnf
  clear hG hlow hfit cur
  go_wp2
  exact HK.out _ _ ⟨rfl, rfl, rfl⟩ HR.out HB.out
set_option maxRecDepth 100000 in
set_option maxHeartbeats 4000000 in
theorem ck_5 (hc : CkS S G k j 5 n nm c) (h : CkW base S G k j ss es sa sc ea ec rt w) (_hn : n ≤ 18446744073709551615) (_hnm : nm.size ≤ 200) (hK : AfterCk K S base w) : Code.wp Tryz.prog ckSwitch (Exit.then K Q) c w := by
  have HK := Lib.hid hK
  have HB0 := Lib.hid (Below.refl base w)
  obtain ⟨_, z0, z1, z2, f0, f1, f2⟩ := blk3 h.own
  have hkl := h.kl
  obtain ⟨g, cc, hv, hcc, hgl, hcell⟩ := row_el crecCells 2 (fun _ => rfl) h.rows.structs k hkl
  obtain ⟨rfl, rfl⟩ := slice_inj hv
  obtain ⟨cur, hg, hlow⟩ := row_bk h.rows.structs
  have x0 : w.cell? ⟨g, k * 2, none⟩ = some (.string ss[k].1.name) := hcell 0 (by omega)
  have x1 : w.cell? ⟨g, k * 2 + 1, none⟩ = some ss[k].2 := hcell 1 (by omega)
  have hkb : (k : Int) < ss.length := by omega
  have hkb0 : (0 : Int) ≤ (k : Int) := by omega
  have hfew := h.few
  have hz := blk_frozen hg (k * 2)
  have HR := Lib.hid (ready_struct h.own h.rows h.fits rfl k 0 (by omega) (.string nm) (fun q => (⟨nm, q.1.fields⟩, q.2)) (fun _ => rfl) (fun _ hq => hq) (fun q hq => ⟨by show nm.size ≤ _; omega, (h.fits.recs q hq).2⟩))
  have HB := Lib.hid (HB0.out.setCell (p := ⟨g, k * 2 + 0, none⟩) hlow (.string nm))
  obtain ⟨u, rfl⟩ := hc.lit
  clear hc h hK _hn _hnm
  conv => arg 2; whnf
  clear hv hcell hg hlow cur x1
  go_wp2
  exact HK.out _ _ ⟨rfl, rfl, rfl⟩ HR.out HB.out
set_option maxRecDepth 100000 in
set_option maxHeartbeats 4000000 in
theorem ck_6 (hc : CkS S G k j 6 n nm c) (h : CkW base S G k j ss es sa sc ea ec rt w) (_hn : n ≤ 18446744073709551615) (_hnm : nm.size ≤ 200) (hK : AfterCk K S base w) : Code.wp Tryz.prog ckSwitch (Exit.then K Q) c w := by
  have HK := Lib.hid hK
  have HB0 := Lib.hid (Below.refl base w)
  obtain ⟨_, z0, z1, z2, f0, f1, f2⟩ := blk3 h.own
  have hlow := h.low
  have t1 : ((n : Int)).tmod 20 = ((n % 20 : Nat) : Int) := by rw [Int.tmod_eq_emod_of_nonneg (by omega)]; omega
  have t2 : IntKind.i64.wrap ((n % 20 : Nat) : Int) = ((n % 20 : Nat) : Int) := IntWalk.i64_in _ (by omega)
  have t3 : IntKind.i64.wrap (((n % 20 : Nat) : Int) - 2) = ((n % 20 : Nat) : Int) - 2 := IntWalk.i64_in _ (by omega)
  have HR := Lib.hid (ready_root h.own h.rows h.fits (((n % 20 : Nat) : Int) - 2))
  have HB := Lib.hid (HB0.out.setCell (p := ⟨S, 2, none⟩) hlow (.int .i64 (((n % 20 : Nat) : Int) - 2)))
  obtain ⟨u, rfl⟩ := hc.lit
  clear hc h hK _hn _hnm
  conv => arg 2; whnf
  clear hlow
  go_wp2
  exact HK.out _ _ ⟨rfl, rfl, rfl⟩ HR.out HB.out
set_option maxRecDepth 100000 in
set_option maxHeartbeats 4000000 in
theorem ck_9 (hc : CkS S G k j 9 n nm c) (h : CkW base S G k j ss es sa sc ea ec rt w) (_hn : n ≤ 18446744073709551615) (_hnm : nm.size ≤ 200) (hK : AfterCk K S base w) : Code.wp Tryz.prog ckSwitch (Exit.then K Q) c w := by
  have HK := Lib.hid hK
  have HB0 := Lib.hid (Below.refl base w)
  obtain ⟨_, z0, z1, z2, f0, f1, f2⟩ := blk3 h.own
  have HRN : Hid (Ready S w) := Lib.hid ⟨base, ss, es, sa, sc, ea, ec, rt, h.own, h.rows, h.fits⟩
  have hef := h.efew
  by_cases he : es.length = 0
  · have t0 : ¬ (0 : Int) < (es.length : Int) := by omega
    obtain ⟨u, rfl⟩ := hc.lit
    clear hc h hK _hn _hnm
    conv => arg 2; whnf
    go_wp2
    exact HK.out _ _ ⟨rfl, rfl, rfl⟩ HRN.out HB0.out
  have t0 : (0 : Int) < (es.length : Int) := by omega
  obtain ⟨g, cc, hv, hcc, hgl, hcell⟩ := row_el schoCells 2 (fun _ => rfl) h.rows.enums 0 (by omega)
  obtain ⟨rfl, rfl⟩ := slice_inj hv
  obtain ⟨cur, hg, hlow⟩ := row_bk h.rows.enums
  have x0 := hcell 0 (by omega)
  rw [Nat.zero_mul] at x0
  have hz := blk_frozen hg 0
  have HR := Lib.hid (ready_enum h.own h.rows h.fits rfl 0 0 (by omega) (.string nm) (fun q => (⟨nm, q.1.names⟩, q.2)) (fun _ => rfl) (fun _ hq => hq) (fun q hq => ⟨by show nm.size ≤ _; omega, (h.fits.chos q hq).2⟩))
  have HB := Lib.hid (HB0.out.setCell (p := ⟨g, 0 * 2 + 0, none⟩) hlow (.string nm))
  obtain ⟨u, rfl⟩ := hc.lit
  clear hc h hK _hn _hnm
  conv => arg 2; whnf
  clear hv hcell hg hlow cur
  go_wp2
  exact HK.out _ _ ⟨rfl, rfl, rfl⟩ HR.out HB.out
set_option maxRecDepth 100000 in
set_option maxHeartbeats 4000000 in
theorem ck_11 (hc : CkS S G k j 11 n nm c) (h : CkW base S G k j ss es sa sc ea ec rt w) (_hn : n ≤ 18446744073709551615) (_hnm : nm.size ≤ 200) (hK : AfterCk K S base w) : Code.wp Tryz.prog ckSwitch (Exit.then K Q) c w := by
  have HK := Lib.hid hK
  have HB0 := Lib.hid (Below.refl base w)
  obtain ⟨_, z0, z1, z2, f0, f1, f2⟩ := blk3 h.own
  have HRN : Hid (Ready S w) := Lib.hid ⟨base, ss, es, sa, sc, ea, ec, rt, h.own, h.rows, h.fits⟩
  obtain ⟨u, rfl⟩ := hc.lit
  clear hc h hK _hn _hnm
  conv => arg 2; whnf
  go_wp2
  exact HK.out _ _ ⟨rfl, rfl, rfl⟩ HRN.out HB0.out
end
end Go.Proofs.YtdlfndjgncdgfaaGreatDoor
namespace Go.Proofs.YtdlfndjgncdgfaaGreatDoor
open Go.ChangeShapes Go.WideShapes Go.ChangeAt Go.RowKit Go.Shelf

section
variable {w W8 : World} {base S G k j : Nat} {nm : ByteArray} {ss : List (CRec × Value)} {es : List (SCho × Value)} {sa ea : Option Addr} {sc ec : Nat} {rt : Int}
theorem blk_ne' {W : World} {g g' : Nat} {cs cs' : Array Value} {t t' : TypeId} (h : W.heap[g]? = some (.cells cs t (0, 0))) (h' : W.heap[g']? = some (.cells cs' t' (0, 0))) (hne : t ≠ t') : g ≠ g' := by
  rintro rfl
  rw [h] at h'
  injection h' with h'
  injection h' with _ ht
  exact hne ht
theorem ck_fin7 (h : CkW base S G k j ss es sa sc ea ec rt w) (hb : Below w.heap.size w W8) {v4 : Value} {L : List CFld} (hr : W8.ownsRow base 51 5 v4 L.length (cfldsCells L)) (hL : ∀ f ∈ L, FldFit f) {g c : Nat} (hg : sa = some ⟨g, c, none⟩) : Ready S (W8.setCell ⟨g, k * 2 + 1, none⟩ v4) :=
  ready_struct (blk_below h.own hb (blk_lt h.own)) (h.rows.below hb) h.fits hg k 1 (by omega) v4 (fun q => (⟨q.1.name, L⟩, v4)) (fun _ => rfl) (fun _ _ => hr) (fun q hq => ⟨(h.fits.recs q hq).1, hL⟩)
theorem ck_fin8 (h : CkW base S G k j ss es sa sc ea ec rt w) (hb : Below w.heap.size w W8) {a4 : Option Addr} {c4 : Nat} (q : CRec × Value) (hq : q ∈ ss) (hr : W8.ownsRow base 54 2 (.slice a4 (ss.length + 1) c4) (ss.length + 1) (crecsCells ss ++ crecCells q)) : Ready S (W8.setCell ⟨S, 0, none⟩ (.slice a4 (ss.length + 1) c4)) := by
  obtain ⟨_, _, _, _, _, _, _, _, _, t10, _⟩ := types_ne
  have hS := blk_below h.own hb (blk_lt h.own)
  have hC := crows_own hS (h.rows.below hb) 0 (.slice a4 (ss.length + 1) c4)
  have hl : (ss ++ [q]).length = ss.length + 1 := by rw [List.length_append]; rfl
  have hm : ∀ p ∈ ss ++ [q], p ∈ ss := fun p hp => by
    rcases List.mem_append.1 hp with hp | hp
    · exact hp
    · rw [List.mem_singleton.1 hp]; exact hq
  refine ⟨base, ss ++ [q], es, a4, c4, ea, ec, rt, ?_, ⟨?_, hC.enums, fun p hp => hC.fields p (hm p hp), hC.names⟩, ⟨fun p hp => h.fits.recs p (hm p hp), h.fits.chos⟩⟩
  · rw [hl]
    exact (blk_set hS 0 _).trans rfl
  · rw [hl, show crecsCells (ss ++ [q]) = crecsCells ss ++ crecCells q by simp [crecsCells]]
    exact row_else hr _ _ (row_typed hS hr t10)
theorem flds_snoc (l : List CFld) (f : CFld) : cfldsCells (l ++ [f]) = cfldsCells l ++ cfldCells f := by simp [cfldsCells]
theorem strs_snoc (l : List ByteArray) (s : ByteArray) : strsCells (l ++ [s]) = strsCells l ++ [.string s] := strsCells_snoc l s
theorem strs_map (l : List ByteArray) : strsCells l = l.map Value.string := by
  induction l with
  | nil => rfl
  | cons a r ih => show [.string a] ++ strsCells r = _; rw [ih]; rfl
theorem row_seen {W W' : World} {b g m : Nat} {cur : Array Value} {v : Value} {l : List ByteArray} (hg : W.heap[g]? = some (.cells cur 9 (0, 0))) (hg' : W'.heap[g]? = some (.cells (cur.setIfInBounds m (.string nm)) 9 (0, 0))) (h : W.ownsRow b 9 1 v l.length (strsCells l)) (hv : v.ownBlock = some g) :
    W'.ownsRow b 9 1 v (l.set m nm).length (strsCells (l.set m nm)) := by
  have hs : strsCells (l.set m nm) = (strsCells l).set m (.string nm) := by
    rw [strs_map, strs_map]
    exact List.map_set
  obtain ⟨hl, h'⟩ := h
  rw [List.length_set, hs]
  refine ⟨by rw [List.length_set]; exact hl, ?_⟩
  rcases h' with ⟨rfl, _⟩ | ⟨g', cap, cur', rfl, h1, h2, h3, h4, h5, h6⟩
  · simp [Value.ownBlock] at hv
  · simp [Value.ownBlock] at hv
    subst hv
    rw [hg] at h2
    injection h2 with h2
    injection h2 with h2
    subst h2
    refine .inr ⟨g', cap, _, rfl, h1, hg', h3, h4, by simpa using h5, ?_⟩
    rw [Array.toList_setIfInBounds, ← h6, List.take_set]
def seeN (g m : Nat) (nm : ByteArray) (q : SCho × Value) : SCho × Value := if q.2.ownBlock = some g then (⟨q.1.name, q.1.names.set m nm⟩, q.2) else q
theorem seeN_cells (g m : Nat) (es : List (SCho × Value)) : schosCells (es.map (seeN g m nm)) = schosCells es := by
  unfold schosCells
  rw [List.flatMap_map]
  congr 1
  funext q
  unfold seeN schoCells
  split <;> rfl
theorem app_names (h : CkW base S G k j ss es sa sc ea ec rt w) {W1 : World} (hb : Below w.heap.size w W1) (hnm : nm.size ≤ 200) (q : SCho × Value) (hq : q ∈ es) {g n cap B : Nat} (hv : q.2 = .slice (some ⟨g, 0, none⟩) n cap) (hn : n = q.1.names.length) (hB : W1.heap[B]? = some (.cells #[.string nm] 9 (0, 0))) (hBb : base ≤ B) (ty : TypeId) :
    ∃ a4 c4 W8, (Builtin.append_ #[55, 55] ty #[.slice (some ⟨g, 0, none⟩) n cap, .slice (some ⟨B, 0, none⟩) 1 1]).run Tryz.prog W1 = .ok (.slice a4 (n + 1) c4) W8 ∧ ∃ es' : List (SCho × Value), es'.length = es.length ∧
      W8.heap[S]? = some (.cells #[.slice sa ss.length sc, .slice ea es.length ec, .int .i64 rt] 30 (0, 0)) ∧ CRows base W8 ss es' (.slice sa ss.length sc) (.slice ea es.length ec) ∧ CFit ss es' ∧ Below base w W8 ∧
      ∃ L : List ByteArray, L.length = n + 1 ∧ W8.ownsRow base 9 1 (.slice a4 (n + 1) c4) L.length (strsCells L) ∧ ∀ s ∈ L, s.size ≤ 281474976710656 := by
  obtain ⟨_, _, t3, _, _, t6, _, _, t9, _, _, _, t13, _⟩ := types_ne
  have hS := blk_below h.own hb (blk_lt h.own)
  have hC := h.rows.below hb
  have hr := hC.names q hq
  rw [hv, ← hn] at hr
  have hn32 := (h.enames q hq).2
  obtain ⟨i0, hi0, hz0, hz1, hz2⟩ := info_parts str_info
  have hBl := blk_lt hB
  have hnews : ∀ j u, [Value.string nm][j]? = some u → W1.cell? ((⟨B, 0, none⟩ : Addr).add j) = some u := World.news_of_block hB
  have hone : ∀ u ∈ [Value.string nm], u.oneCell' = true := by intro u hu; rw [List.mem_singleton.1 hu]; rfl
  obtain ⟨v', w', hrun, hown, hgrow, _⟩ := run_append_own (P := Tryz.prog) W1 base 55 ty 9 i0 _ 1 16 Tryz.underlying55 hi0 hz0 hz1 hz2 rfl (by decide) _ n _ hr ⟨B, 0, none⟩ 1 1 [.string nm] rfl hnews hone (by unfold maxLen; omega) (by omega) (by omega)
  obtain ⟨a4, c4, rfl⟩ := ownsRow_form hown
  have hLl : (q.1.names ++ [nm]).length = n + 1 := by rw [List.length_append, hn]; rfl
  have hLr : w'.ownsRow base 9 1 (.slice a4 (n + 1) c4) (q.1.names ++ [nm]).length (strsCells (q.1.names ++ [nm])) := by rw [hLl, strs_snoc]; exact hown
  have hLf : ∀ s ∈ q.1.names ++ [nm], s.size ≤ 281474976710656 := fun s hs => by
    rcases List.mem_append.1 hs with hs | hs
    · exact (h.fits.chos q hq).2 s hs
    · rw [List.mem_singleton.1 hs]; omega
  rcases hr.2 with ⟨h1, _⟩ | ⟨g', cap', cur, h1, hlow, hg, hnc, hcm, hcs, htk⟩
  · cases h1
  injection h1 with h1 _ h3
  injection h1 with h1
  injection h1 with h1
  subst h1
  subst h3
  have hBw : Below base w w' := (hb.mono (h.rows.enums.2.elim (fun _ => by have := h.low; have := blk_lt h.own; omega) (fun _ => by have := h.low; have := blk_lt h.own; omega))).grown hgrow (by omega) (fun k hk => by simp [Value.ownBlock] at hk; omega)
  have hSg : S ≠ g := blk_ne' hS hg t13.symm
  have hS' : w'.heap[S]? = some (.cells #[.slice sa ss.length sc, .slice ea es.length ec, .int .i64 rt] 30 (0, 0)) := (hgrow.block S (blk_lt hS) (fun e => by simp [Value.ownBlock] at e; exact hSg e)).trans hS
  have hkept : ∀ {b : Nat} {e : TypeId} {s : Nat} {v : Value} {m : Nat} {xs : List Value}, W1.ownsRow b e s v m xs → v.ownBlock ≠ some g → w'.ownsRow b e s v m xs := fun ho hne => rws_other hgrow ho (fun k hk e => by simp [Value.ownBlock] at e; exact hne (e ▸ hk))
  by_cases hroom : n + 1 ≤ cap
  · have hr2 := run_append_room (P := Tryz.prog) W1 55 ty 9 i0 Tryz.underlying55 hi0 g n cap cur hg ⟨B, 0, none⟩ 1 1 [.string nm] (by rw [hz1]; rfl) hnews hone hroom (by rw [hz1, hcs]; show n * 1 + 1 ≤ cap * 1; omega)
    rw [hrun] at hr2
    injection hr2 with _ e2
    have hcur : (cur.toList.take (n * i0.size) ++ [Value.string nm] ++ cur.toList.drop (n * i0.size + [Value.string nm].length)).toArray = cur.setIfInBounds n (.string nm) := by
      apply Array.ext'
      have hlt : n < cur.toList.length := by rw [Array.length_toList]; omega
      rw [hz1, Nat.mul_one, Array.toList_setIfInBounds, List.set_eq_take_append_cons_drop, if_pos hlt]
      simp
    have hg' : w'.heap[g]? = some (.cells (cur.setIfInBounds n (.string nm)) 9 (0, 0)) := by
      rw [e2, hcur]
      exact setRow_heap W1 g cur _ _ _ hg
    refine ⟨a4, c4, w', hrun, es.map (seeN g n nm), List.length_map _, hS', ⟨?_, ?_, ?_, ?_⟩, ⟨h.fits.recs, ?_⟩, hBw, q.1.names ++ [nm], hLl, hLr, hLf⟩
    · exact hkept hC.structs (row_typed hg hC.structs t6.symm)
    · rw [List.length_map, seeN_cells]
      exact hkept hC.enums (row_typed hg hC.enums t9.symm)
    · exact fun p hp => hkept (hC.fields p hp) (row_typed hg (hC.fields p hp) t3.symm)
    · intro p hp
      obtain ⟨p', hp', rfl⟩ := List.mem_map.1 hp
      unfold seeN
      split
      · rename_i hb'
        exact row_seen hg hg' (hC.names p' hp') hb'
      · rename_i hb'
        exact hkept (hC.names p' hp') hb'
    · intro p hp
      obtain ⟨p', hp', rfl⟩ := List.mem_map.1 hp
      obtain ⟨f1, f2⟩ := h.fits.chos p' hp'
      unfold seeN
      split
      · refine ⟨f1, fun s hs => ?_⟩
        rcases List.mem_or_eq_of_mem_set hs with hs | rfl
        · exact f2 s hs
        · omega
      · exact ⟨f1, f2⟩
  · have holds : ∀ j u, (strsCells q.1.names)[j]? = some u → W1.cell? ((⟨g, 0, none⟩ : Addr).add j) = some u := hr.cells (g := g) rfl
    have hr2 := run_append_grow (P := Tryz.prog) W1 55 ty 9 i0 _ Tryz.underlying55 hi0 hz0 ⟨g, 0, none⟩ n cap (strsCells q.1.names) (by rw [hz1]; exact hr.1) holds ⟨B, 0, none⟩ 1 1 [.string nm] (by rw [hz1]; rfl) hnews (by omega) (by omega) (growslice_fits (by omega) (by rw [hz2]; omega))
    rw [hrun] at hr2
    injection hr2 with _ e2
    have hall : ∀ {b : Nat} {e : TypeId} {s : Nat} {v : Value} {m : Nat} {xs : List Value}, W1.ownsRow b e s v m xs → w'.ownsRow b e s v m xs := fun ho => by
      rw [e2]
      exact row_keep (w := W1) (((Below.refl _ W1).drew).alloc (Nat.le_refl _) _) ho
    exact ⟨a4, c4, w', hrun, es, rfl, hS', ⟨hall hC.structs, hall hC.enums, fun p hp => hall (hC.fields p hp), fun p hp => hall (hC.names p hp)⟩, h.fits, hBw, q.1.names ++ [nm], hLl, hLr, hLf⟩
theorem ck_fin10 {es' : List (SCho × Value)} {a4 : Option Addr} {n4 c4 : Nat} {L : List ByteArray} (hl : es'.length = es.length) (hS : W8.heap[S]? = some (.cells #[.slice sa ss.length sc, .slice ea es.length ec, .int .i64 rt] 30 (0, 0))) (hC : CRows base W8 ss es' (.slice sa ss.length sc) (.slice ea es.length ec)) (hF : CFit ss es')
    (hr : W8.ownsRow base 9 1 (.slice a4 n4 c4) L.length (strsCells L)) (hL : ∀ s ∈ L, s.size ≤ 281474976710656) {g c : Nat} (hg : ea = some ⟨g, c, none⟩) : Ready S (W8.setCell ⟨g, 0 * 2 + 1, none⟩ (.slice a4 n4 c4)) := by
  rw [← hl] at hS hC
  exact ready_enum hS hC hF hg 0 1 (by omega) (.slice a4 n4 c4) (fun q => (⟨q.1.name, L⟩, .slice a4 n4 c4)) (fun _ => rfl) (fun _ _ => hr) (fun q hq => ⟨(hF.chos q hq).1, hL⟩)
end
end Go.Proofs.YtdlfndjgncdgfaaGreatDoor
namespace Go.Proofs.YtdlfndjgncdgfaaGreatDoor
open Go.ChangeShapes Go.WideShapes Go.ChangeAt Go.RowKit Go.Shelf

theorem cel_old {w W : World} (h : Below w.heap.size w W) {p : Addr} {v : Value} (hp : w.cell? p = some v) : W.cell? p = some v := (h.cell (World.block_lt_of_cell? _ _ hp)).trans hp
theorem cel_ne {W : World} {a b : Nat} {i j : Nat} {u : Value} (h : a ≠ b) : (W.setCell ⟨a, i, none⟩ u).cell? ⟨b, j, none⟩ = W.cell? ⟨b, j, none⟩ := World.cell?_of_block (w := W) (a := ⟨b, j, none⟩) (Below.heap_setCell _ _ _ _ (fun e => h e.symm))
end Go.Proofs.YtdlfndjgncdgfaaGreatDoor
