/-
  Types of tables, limits, globals and functions: whether they may be.
-/
import Derived.Test.YtjagimlmclejeaaJ18
import Derived.Test.YtjagimlmclejeaaJ21
namespace Go.Proofs.Ytjagimlmclejeaa
open Go.RowKit Go.Proofs.Leb Go.Proofs.Own
set_option maxRecDepth 100000
set_option maxHeartbeats 4000000

structure Lm where
  h : Bool
  mn : Int
  mx : Int
structure Tb where
  e : Int
  h : Bool
  mn : Int
  mx : Int
structure Fty where
  p : ByteArray
  r : ByteArray
def lmC (x : Lm) : Array Value := #[.bool x.h, .int .u32 x.mn, .int .u32 x.mx]
def tbC (x : Tb) : Array Value := #[.int .u8 x.e, .bool x.h, .int .u32 x.mn, .int .u32 x.mx]
def lmR (x : Lm) : Bool := x.h || decide (x.mx = 0)
def tbR (x : Tb) : Bool := refV x.e && (x.h || decide (x.mx = 0))
theorem bool_dec {b : Bool} {k : Int} : (b || (k == 0)) = (b || decide (k = 0)) := by
  congr 1
theorem lmRight_any (x : Lm) (w : World) : Calls Try.prog 12 #[.agg (lmC x)] w (IsNew (lmR x) w) := by
  have HN := hid (fun o => (Upd.refl (fun _ => False) w).alloc o)
  obtain ⟨h, mn, mx⟩ := x
  unfold lmR lmC
  simp only
  cases h with
  | true =>
    go_enter Try.func12, Try.ntmps12
    go_wp2_with fail
    go_ret
    exact ⟨rfl, HN.out _⟩
  | false =>
    go_enter Try.func12, Try.ntmps12
    go_wp2_with fail
    go_ret
    exact ⟨rfl, HN.out _⟩
theorem tbRight_any (x : Tb) (w : World) : Calls Try.prog 13 #[.agg (tbC x)] w (IsNew (tbR x) w) := by
  have HV := hid (fun w => vref_any x.e w)
  have HL := hid (fun w => lmRight_any ⟨x.h, x.mn, x.mx⟩ w)
  have hN := (Upd.refl (fun _ => False) w).alloc (.cells (tbC x) 41)
  have HN := hid hN
  clear hN
  obtain ⟨e, h, mn, mx⟩ := x
  unfold tbR tbC at *
  unfold lmC lmR at HL
  simp only at *
  generalize refV e = b at *
  generalize (h || decide (mx = 0)) = c at *
  go_enter Try.func13, Try.ntmps13
  go_wp2_with fail
  refine (HV.out _).mono ?_
  rintro e w' ⟨rfl, rfl⟩
  cases b with
  | false =>
    go_wp2_with fail
    go_ret
    exact ⟨rfl, HN.out⟩
  | true =>
    go_wp2_with fail
    refine (HL.out _).mono ?_
    rintro e w2 ⟨rfl, hn⟩
    have HN2 := hid (New.trans HN.out hn)
    clear hn
    go_wp2_with fail
    go_ret
    exact ⟨rfl, HN2.out⟩
theorem gtRight_any (t : Int) (m : Bool) (w : World) : Calls Try.prog 14 #[.agg #[.int .u8 t, .bool m]] w (IsNew (valV t) w) := by
  have HV := hid (fun w => vright_any t w)
  have HN := hid (fun o => (Upd.refl (fun _ => False) w).alloc o)
  go_enter Try.func14, Try.ntmps14
  go_wp2_with fail
  refine (HV.out _).mono ?_
  rintro e w' ⟨rfl, rfl⟩
  go_wp2_with fail
  go_ret
  exact ⟨rfl, HN.out _⟩
end Go.Proofs.Ytjagimlmclejeaa
