/-
  The walks of spans: the program's.
-/
import Derived.Test.YtnngibflnnmioaaChecked
import Derived.Test.YtnngibflnnmioaaAgg
import Derived.Test.YtnngibflnnmioaaSpn
import Derived.Deep.RegionHeld3
import Derived.Deep.DeepCutAuto
namespace Go.Proofs.Ytnngibflnnmioaa
open Go.RowKit Go.Proofs.Own Go.Proofs.Span
set_option maxRecDepth 100000
set_option maxHeartbeats 2000000

theorem endless_any (mn mx : Int) (w : World) :
    Calls Try.prog 70 #[.agg #[.int .i64 mn, .int .i64 mx]] w fun e w' => e = .returned (.bool (decide (1099511627776 ≤ mx))) ∧ w.alloc (.cells #[.int .i64 mn, .int .i64 mx] 70) = w' := by
  go_enter Try.func70, Try.ntmps70
  go_wp2_with fail
  go_ret
  exact ⟨rfl, rfl⟩

theorem has_any (mn mx n : Int) (w : World) :
    Calls Try.prog 32 #[.agg #[.int .i64 mn, .int .i64 mx], .int .i64 n] w fun e w' => e = .returned (.bool (has mn mx n)) ∧ New w w' := by
  have HE := hid (endless_any mn mx)
  have HV : Hid (has mn mx n = (decide (mn ≤ n) && (decide (1099511627776 ≤ mx) || decide (n ≤ mx)))) := by show _ = _; rfl
  by_cases h1 : mn ≤ n
  · by_cases h2 : (1099511627776 : Int) ≤ mx
    · have HW : Hid ((decide (mn ≤ n) && (decide (1099511627776 ≤ mx) || decide (n ≤ mx))) = true) := by show _ = _; simp [h1, h2]
      go_enter Try.func32, Try.ntmps32
      go_wp2_with (refine (HE.out _).mono ?_; rintro e w' ⟨rfl, rfl⟩)
      go_ret
      rw [HV.out, HW.out]
      exact ⟨rfl, ((Upd.refl _ _).alloc _).alloc _⟩
    · have HW : Hid ((decide (mn ≤ n) && (decide (1099511627776 ≤ mx) || decide (n ≤ mx))) = decide (n ≤ mx)) := by show _ = _; simp [h1, h2]
      have H2 := hid h2
      go_enter Try.func32, Try.ntmps32
      go_wp2_with (refine (HE.out _).mono ?_; rintro e w' ⟨rfl, rfl⟩)
      go_ret
      refine ⟨?_, ((Upd.refl _ _).alloc _).alloc _⟩
      rw [HV.out, HW.out]
      show Ending.returned (Value.bool (decide (1099511627776 ≤ mx) || decide (n ≤ mx))) = _
      rw [decide_eq_false (by have := H2.out; omega)]
      rfl
  · have HW : Hid ((decide (mn ≤ n) && (decide (1099511627776 ≤ mx) || decide (n ≤ mx))) = false) := by show _ = _; simp [h1]
    go_enter Try.func32, Try.ntmps32
    go_wp2_with fail
    go_ret
    rw [HV.out, HW.out]
    exact ⟨rfl, (Upd.refl _ _).alloc _⟩

end Go.Proofs.Ytnngibflnnmioaa
