/-
  The walks of texts: the document's answers.
-/
import Derived.Test.YtnngibflnnmioaaUtfP
namespace Go.Proofs.Ytnngibflnnmioaa
open Go.RowKit Go.Proofs.Own Go.Proofs.Utf
set_option maxRecDepth 100000
set_option maxHeartbeats 2000000

theorem retLe {p : Prop} [Decidable p] {c : Bool} (h : p ↔ c = true) : Ending.returned (.bool (decide p)) = .returned (.bool c) := by
  have : decide p = c := by rw [Bool.eq_iff_iff, decide_eq_true_eq]; exact h
  rw [this]
theorem retB {b c : Bool} (h : b = c) : Ending.returned (.bool b) = .returned (.bool c) := by rw [h]

theorem Is_any (n : Nat) (w : World) (hn : n ≤ 1000000000000) :
    Calls Try.prog 98 #[.int .i64 n] w fun e w' => e = .returned (.bool (Utf.is n)) ∧ w = w' := by
  by_cases h1 : n ≤ 1114111
  · by_cases h2 : n < 55296
    · have HV : Hid (Utf.is n = true) := by show _ = _; unfold Utf.is; rw [decide_eq_true ⟨h1, .inl h2⟩]
      go_enter Try.func98, Try.ntmps98
      go_wp2_with fail
      go_ret
      exact ⟨by rw [HV.out]; rfl, rfl⟩
    · by_cases h3 : 57343 < n
      · have HV : Hid (Utf.is n = true) := by show _ = _; unfold Utf.is; rw [decide_eq_true ⟨h1, .inr h3⟩]
        go_enter Try.func98, Try.ntmps98
        go_wp2_with fail
        go_ret
        exact ⟨by rw [HV.out]; exact retB (b := decide ((n : Int) < 55296) || decide ((57343 : Int) < n)) ((Bool.or_eq_true _ _).mpr (.inr (decide_eq_true (by omega)))), rfl⟩
      · have HV : Hid (Utf.is n = false) := by show _ = _; unfold Utf.is; rw [decide_eq_false (by omega)]
        go_enter Try.func98, Try.ntmps98
        go_wp2_with fail
        go_ret
        exact ⟨by rw [HV.out]; exact retB (b := decide ((n : Int) < 55296) || decide ((57343 : Int) < n)) (by rw [decide_eq_false (by omega : ¬ (n : Int) < 55296), decide_eq_false (by omega : ¬ (57343 : Int) < n)]; rfl), rfl⟩
  · have HV : Hid (Utf.is n = false) := by show _ = _; unfold Utf.is; rw [decide_eq_false (by omega)]
    go_enter Try.func98, Try.ntmps98
    go_wp2_with fail
    go_ret
    exact ⟨by rw [HV.out]; rfl, rfl⟩

theorem pow64 {i : Nat} (h : i ≤ 3) : 64 ^ i ≤ 262144 := by
  have : (64 : Nat) ^ 3 = 262144 := by decide
  rw [← this]; exact Nat.pow_le_pow_right (by decide) h

theorem any3_any (n g least most : Nat) (w : World) (hn : n < 4194304) (hg : g ≤ 3) (h1 : least ≤ 1114112) (h2 : most ≤ 1114112) (h3 : 0 < most) :
    Calls Try.prog 97 #[.int .i64 n, .int .i64 g, .int .i64 least, .int .i64 most] w fun e w' =>
      e = .returned (.bool (clip (wide g n n).1 (wide g n n).2 least most)) ∧ w = w' := by
  obtain ⟨r, hr⟩ : ∃ r, wide g n n = r := ⟨_, rfl⟩
  rw [hr]
  have HR := hid hr
  clear hr
  go_enter Try.func97, Try.ntmps97
  go_wp2_with fail
  go_loopg [9, 10, 11] g (fun k a b c wr => ∃ i lo hi P : Nat, k = g - i ∧ a = .int .i64 lo ∧ b = .int .i64 hi ∧ c = .int .i64 i ∧ i ≤ g ∧ P = 64 ^ i ∧ lo ≤ hi ∧ hi + 1 ≤ 4194304 * P ∧ w = wr ∧ wide (g - i) lo hi = r)
  case atStart => exact ⟨0, n, n, 1, rfl, rfl, rfl, rfl, Nat.zero_le _, rfl, Nat.le_refl _, by omega, rfl, HR.out⟩
  case round =>
    obtain ⟨i, lo, hi, P, rfl, rfl, rfl, rfl, hi1, hP, hlh, hhi, rfl, hw⟩ := hrel
    have hPb : P ≤ 262144 := by rw [hP]; exact pow64 (by omega)
    have HP := hid hP
    have HW := hid hw
    clear hP hw
    by_cases hlt : i < g
    · have HW2 : Hid (wide (g - (i + 1)) (64 * lo) (64 * hi + 63) = r) := by
        have := HW.out
        rw [show g - i = (g - (i + 1)) + 1 by omega, wide] at this
        exact this
      have HP2 : Hid (P * 64 = 64 ^ (i + 1)) := by show _ = _; rw [Nat.pow_succ, HP.out]
      go_wp2_with fail
      go_roundg (g - (i + 1))
      case measure => omega
      case rel => exact ⟨i + 1, 64 * lo, 64 * hi + 63, P * 64, rfl, by go_num, by go_num, by go_num, by omega, HP2.out, by omega, by omega, rfl, HW2.out⟩
    · have HE : Hid (r = (lo, hi)) := by
        have := HW.out
        rw [show g - i = 0 by omega, wide] at this
        exact this.symm
      go_wp2_with fail
      all_goals
        go_ret
        first
          | exact ⟨retLe (by rw [HE.out]; unfold clip; dsimp only; rw [decide_eq_true_eq]; repeat' split
                             all_goals omega), rfl⟩
          | exact ⟨retB (Eq.symm (by rw [HE.out]; unfold clip; dsimp only; rw [decide_eq_true_eq]; repeat' split
                                     all_goals omega)), rfl⟩
          | exact ⟨retB (Eq.symm (by rw [HE.out]; unfold clip; dsimp only; rw [decide_eq_false_iff_not]; repeat' split
                                     all_goals omega)), rfl⟩
end Go.Proofs.Ytnngibflnnmioaa
