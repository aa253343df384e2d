/-
  The walks of wtype and of its reference: what is a value type.
-/
import Derived.Test.YtjagimlmclejeaaChecked
import Derived.Test.YtjagimlmclejeaaJ4
import Derived.Deep.RegionHeld3
import Derived.Deep.DeepCutAuto
import Derived.WalkMore
namespace Go.Proofs.Ytjagimlmclejeaa
open Go.RowKit Go.Proofs.Own
set_option maxRecDepth 100000
set_option maxHeartbeats 2000000

def refV (v : Int) : Bool := decide (v = 112 ∨ v = 111)
def valV (v : Int) : Bool := decide ((123 ≤ v ∧ v ≤ 127) ∨ v = 112 ∨ v = 111)
def IsPost (b : Bool) (w : World) (e : Ending) (w' : World) : Prop := e = .returned (.bool b) ∧ w = w'
theorem refV_t {v : Int} (h : v = 112 ∨ v = 111) : refV v = true := decide_eq_true h
theorem refV_f {v : Int} (h : ¬ (v = 112 ∨ v = 111)) : refV v = false := decide_eq_false h

theorem vref_any (v : Int) (w : World) : Calls Try.prog 17 #[.int .u8 v] w (IsPost (refV v) w) := by
  by_cases h1 : v = 112
  · rw [refV_t (.inl h1)]
    subst h1
    go_enter Try.func17, Try.ntmps17
    go_wp2_with fail
    go_ret
    exact ⟨rfl, rfl⟩
  · by_cases h2 : v = 111
    · rw [refV_t (.inr h2)]
      subst h2
      go_enter Try.func17, Try.ntmps17
      go_wp2_with fail
      go_ret
      exact ⟨rfl, rfl⟩
    · rw [refV_f (by omega)]
      have e1 : (v == 112) = false := by simpa using h1
      have e2 : (v == 111) = false := by simpa using h2
      go_enter Try.func17, Try.ntmps17
      go_wp2_with fail
      go_ret
      exact ⟨rfl, rfl⟩
theorem rref_any (v : Int) (w : World) : Calls Try.prog 10 #[.int .u8 v] w (IsPost (refV v) w) := by
  by_cases h1 : v = 112
  · rw [refV_t (.inl h1)]
    subst h1
    go_enter Try.func10, Try.ntmps10
    go_wp2_with fail
    go_ret
    exact ⟨rfl, rfl⟩
  · by_cases h2 : v = 111
    · rw [refV_t (.inr h2)]
      subst h2
      go_enter Try.func10, Try.ntmps10
      go_wp2_with fail
      go_ret
      exact ⟨rfl, rfl⟩
    · rw [refV_f (by omega)]
      have e1 : (v == 112) = false := by simpa using h1
      have e2 : (v == 111) = false := by simpa using h2
      go_enter Try.func10, Try.ntmps10
      go_wp2_with fail
      go_ret
      exact ⟨rfl, rfl⟩
theorem valV_ref {v : Int} (h : refV v = true) : valV v = true := decide_eq_true (.inr (of_decide_eq_true h))
theorem valV_in {v : Int} (h1 : 123 ≤ v) (h2 : v ≤ 127) : valV v = true := decide_eq_true (.inl ⟨h1, h2⟩)
theorem valV_out {v : Int} (h : refV v = false) (h1 : ¬ (123 ≤ v ∧ v ≤ 127)) : valV v = false := by
  have := of_decide_eq_false h
  exact decide_eq_false (fun k => k.elim h1 this)
theorem vright_any (v : Int) (w : World) : Calls Try.prog 16 #[.int .u8 v] w (IsPost (valV v) w) := by
  have HR := hid (fun w => vref_any v w)
  cases hr : refV v with
  | true =>
    rw [valV_ref hr]
    rw [hr] at HR
    go_enter Try.func16, Try.ntmps16
    go_wp2_with (go_at_call 17; refine (HR.out _).mono ?_; rintro e w' ⟨rfl, rfl⟩)
    go_ret
    exact ⟨rfl, rfl⟩
  | false =>
    rw [hr] at HR
    by_cases h1 : 123 ≤ v
    · by_cases h2 : v ≤ 127
      · rw [valV_in h1 h2]
        go_enter Try.func16, Try.ntmps16
        go_wp2_with (go_at_call 17; refine (HR.out _).mono ?_; rintro e w' ⟨rfl, rfl⟩)
        go_ret
        exact ⟨rfl, rfl⟩
      · have h3 : decide (v ≤ 127) = false := decide_eq_false h2
        rw [valV_out hr (by omega)]
        go_enter Try.func16, Try.ntmps16
        go_wp2_with (go_at_call 17; refine (HR.out _).mono ?_; rintro e w' ⟨rfl, rfl⟩)
        go_ret
        exact ⟨rfl, rfl⟩
    · have h3 : decide (123 ≤ v) = false := decide_eq_false h1
      rw [valV_out hr (by omega)]
      go_enter Try.func16, Try.ntmps16
      go_wp2_with (go_at_call 17; refine (HR.out _).mono ?_; rintro e w' ⟨rfl, rfl⟩)
      go_ret
      exact ⟨rfl, rfl⟩
theorem rval_any (v : Int) (w : World) : Calls Try.prog 15 #[.int .u8 v] w (IsPost (valV v) w) := by
  have HR := hid (fun w => rref_any v w)
  by_cases h1 : 123 ≤ v
  · by_cases h2 : v ≤ 127
    · rw [valV_in h1 h2]
      go_enter Try.func15, Try.ntmps15
      go_wp2_with (go_at_call 10; refine (HR.out _).mono ?_; rintro e w' ⟨rfl, rfl⟩)
      go_ret
      exact ⟨rfl, rfl⟩
    · have h3 : decide (v ≤ 127) = false := decide_eq_false h2
      have e : valV v = refV v := by
        cases hr : refV v with
        | true => exact valV_ref hr
        | false => exact valV_out hr (by omega)
      rw [e]
      go_enter Try.func15, Try.ntmps15
      go_wp2_with (go_at_call 10; refine (HR.out _).mono ?_; rintro e w' ⟨rfl, rfl⟩)
      go_ret
      exact ⟨rfl, rfl⟩
  · have h3 : decide (123 ≤ v) = false := decide_eq_false h1
    have e : valV v = refV v := by
      cases hr : refV v with
      | true => exact valV_ref hr
      | false => exact valV_out hr (by omega)
    rw [e]
    go_enter Try.func15, Try.ntmps15
    go_wp2_with (go_at_call 10; refine (HR.out _).mono ?_; rintro e w' ⟨rfl, rfl⟩)
    go_ret
    exact ⟨rfl, rfl⟩
end Go.Proofs.Ytjagimlmclejeaa
