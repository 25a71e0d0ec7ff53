/-
  Views of values in memory: a kid's number; Of. Conditions: those that each theorem names.
-/
import Derived.Test.YtfghaopimeoijaaDoorVKid
namespace Go.Proofs.YtfghaopimeoijaaDoor
open Go.ChangeShapes Go.WideShapes Go.ChangeAt Go.RowKit Go.Shelf

/-- A view of a value in memory, as the interface holds it. -/
def viewI (val : Value) : Value := .iface 78 val
theorem fldV : ∀ (n : Int) (a b : Option Addr) (l c m e : Nat) (h : Bool) (W : World), (Instr.field 76 (.agg #[.int .u64 n, .slice a l c, .slice b m e, .bool h]) 0).run Tryd.prog W = .ok (.agg #[.int .u64 n, .slice a l c, .slice b m e, .bool h]) W := fun _ _ _ _ _ _ _ _ _ => by kernel_rfl
theorem fldS : ∀ (n : Int) (a b : Option Addr) (l c m e : Nat) (h : Bool) (W : World), (Instr.field 78 (.agg #[.int .u64 n, .slice a l c, .slice b m e, .bool h]) 0).run Tryd.prog W = .ok (.agg #[.int .u64 n, .slice a l c, .slice b m e, .bool h]) W := fun _ _ _ _ _ _ _ _ _ => by kernel_rfl
theorem fldA0 : ∀ (n : Int) (a b : Option Addr) (l c m e : Nat) (h : Bool) (W : World), (Instr.field 36 (.agg #[.int .u64 n, .slice a l c, .slice b m e, .bool h]) 0).run Tryd.prog W = .ok (.int .u64 n) W := fun _ _ _ _ _ _ _ _ _ => by kernel_rfl
theorem fldA1 : ∀ (n : Int) (a b : Option Addr) (l c m e : Nat) (h : Bool) (W : World), (Instr.field 36 (.agg #[.int .u64 n, .slice a l c, .slice b m e, .bool h]) 1).run Tryd.prog W = .ok (.slice a l c) W := fun _ _ _ _ _ _ _ _ _ => by kernel_rfl
theorem fldA2 : ∀ (n : Int) (a b : Option Addr) (l c m e : Nat) (h : Bool) (W : World), (Instr.field 36 (.agg #[.int .u64 n, .slice a l c, .slice b m e, .bool h]) 2).run Tryd.prog W = .ok (.slice b m e) W := fun _ _ _ _ _ _ _ _ _ => by kernel_rfl
theorem fldA3 : ∀ (n : Int) (a b : Option Addr) (l c m e : Nat) (h : Bool) (W : World), (Instr.field 36 (.agg #[.int .u64 n, .slice a l c, .slice b m e, .bool h]) 3).run Tryd.prog W = .ok (.bool h) W := fun _ _ _ _ _ _ _ _ _ => by kernel_rfl
/-- The receiver that a promoted method is handed. -/
theorem recv_val (h : 76 < Tryd.prog.types.size) (a b c d : Value) : (List.take (Tryd.prog.types[76]'h).size [a, b, c, d]).toArray = #[a, b, c, d] := by
  have e : (Tryd.prog.types[76]'h).size = 4 := by kernel_rfl
  rw [e]
  rfl
set_option maxRecDepth 100000 in
set_option maxHeartbeats 4000000 in
theorem num_any (w : World) (x : PV) (val : Value) (hx : IsV w x val) (i : Int) :
    Calls Tryd.prog 75 #[val, .int .i64 i] w fun e w' => e = .returned (.int .u64 (kidP x i).num) ∧ Below w.heap.size w w' := by
  have HX := Lib.hid hx
  obtain ⟨ba, ka, bc, kc, rfl, hn, hby, hbl, hbm, hkl, hkm, hks⟩ := hx.form
  have hb := (Below.refl w.heap.size w).alloc (Nat.le_refl _) (.cells #[.int .u64 x.num, .slice ba x.bytes.length bc, .slice ka x.kids.length kc, .bool x.has] 76)
  have HB := Lib.hid hb
  obtain ⟨_, s0, s1, s2, s3⟩ := blk4p (heap_alloc_new w (.cells #[.int .u64 x.num, .slice ba x.bytes.length bc, .slice ka x.kids.length kc, .bool x.has] 76))
  have HK := Lib.hid (kid_any _ x _ (hx.later hb) i)
  clear hb hby hks hx HX hn hbl hbm hkl hkm
  generalize kidP x i = q at *
  go_enter Tryd.func75, Tryd.ntmps75
  go_upto_region 1 with (fail)
  generalize w.alloc (.cells #[.int .u64 x.num, .slice ba x.bytes.length bc, .slice ka x.kids.length kc, .bool x.has] 76) = W0 at *
  go_wp2_with fail
  refine HK.out.mono ?_
  rintro e W1 ⟨⟨kv, rfl, hkv⟩, hb1⟩
  have HB1 := Lib.hid (HB.out.trans (hb1.mono HB.out.size))
  obtain ⟨ba', ka', bc', kc', rfl, _⟩ := hkv.form
  clear hb1 hkv s0 s1 s2 s3 HK
  have f0 := fldV
  have f1 := fldA0
  go_wp2
  go_ret
  exact ⟨rfl, HB1.out⟩
theorem of_any (w : World) (x : PV) (val : Value) (hx : IsV w x val) :
    Calls Tryd.prog 11 #[val] w fun e w' => e = .returned (viewI val) ∧ Below w.heap.size w w' := by
  obtain ⟨ba, ka, bc, kc, rfl, hn, hby, hbl, hbm, hkl, hkm, hks⟩ := hx.form
  have hb := (Below.refl w.heap.size w).alloc (Nat.le_refl _) (.cells #[.int .u64 x.num, .slice ba x.bytes.length bc, .slice ka x.kids.length kc, .bool x.has] 36)
  have HB := Lib.hid hb
  obtain ⟨_, s0, s1, s2, s3⟩ := blk4p (heap_alloc_new w (.cells #[.int .u64 x.num, .slice ba x.bytes.length bc, .slice ka x.kids.length kc, .bool x.has] 36))
  clear hb hby hks hx hn hbl hbm hkl hkm
  go_enter Tryd.func11, Tryd.ntmps11
  go_upto_region 1 with (fail)
  generalize w.alloc (.cells #[.int .u64 x.num, .slice ba x.bytes.length bc, .slice ka x.kids.length kc, .bool x.has] 36) = W0 at *
  go_wp2
  go_ret
  exact ⟨rfl, HB.out⟩
end Go.Proofs.YtfghaopimeoijaaDoor
