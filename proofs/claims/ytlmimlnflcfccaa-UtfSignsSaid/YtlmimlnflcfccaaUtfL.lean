/-
  The laws of texts: UtfNeeds.
-/
import Derived.Test.YtlmimlnflcfccaaUtfN
import Derived.Test.YtlmimlnflcfccaaFrm
namespace Go.Proofs.Ytlmimlnflcfccaa
open Go.RowKit Go.Proofs.Own Go.Proofs.Utf
set_option maxRecDepth 100000
set_option maxHeartbeats 2000000

theorem needU {l : List UInt8} {p : Nat × Bool} (h : run l 0 0 0 = p) : need l = p := (run_need _ _ (Nat.le_refl _)).symm.trans h
theorem ux1 : need [226] = (2, true) := needU (by decide)
theorem ux2 : need [237, 160] = (0, false) := needU (by decide)
theorem ux4 : need [97, 226, 130, 172] = (0, true) := needU (by decide)

theorem awake3_any (w : World) : Calls Try.prog 48 #[] w fun e w' => e = .returned (.bool true) ∧ w = w' := by
  have H1 : Hid (∀ w, Calls Try.prog 45 #[.string ⟨#[226]⟩] w fun e w' => e = .returned (.tuple #[.int .i64 2, .bool true]) ∧ w = w') := fun w => by
    have h := Need_any ⟨#[226]⟩ w (by decide)
    rw [show (ByteArray.mk #[226]).data.toList = [226] from rfl, ux1] at h
    exact h
  have H2 : Hid (∀ w, Calls Try.prog 45 #[.string ⟨#[237, 160]⟩] w fun e w' => e = .returned (.tuple #[.int .i64 0, .bool false]) ∧ w = w') := fun w => by
    have h := Need_any ⟨#[237, 160]⟩ w (by decide)
    rw [show (ByteArray.mk #[237, 160]).data.toList = [237, 160] from rfl, ux2] at h
    exact h
  have H3 : Hid (∀ w, Calls Try.prog 47 #[.string ⟨#[97, 226, 130, 172]⟩] w fun e w' => e = .returned (.bool true) ∧ w = w') := fun w => by
    have h := Valid_any ⟨#[97, 226, 130, 172]⟩ w (by decide)
    rw [show (ByteArray.mk #[97, 226, 130, 172]).data.toList = [97, 226, 130, 172] from rfl, ux4] at h
    exact h
  go_enter Try.func48, Try.ntmps48
  go_wp2_with fail
  refine (H1.out _).mono ?_
  rintro e w' ⟨rfl, rfl⟩
  go_wp2_with fail
  refine (H2.out _).mono ?_
  rintro e w' ⟨rfl, rfl⟩
  go_wp2_with fail
  refine (H3.out _).mono ?_
  rintro e w' ⟨rfl, rfl⟩
  go_wp2_with fail
  go_ret
  exact ⟨rfl, rfl⟩

theorem utfNeeds_walk (s : ByteArray) (w : World) (hs : s.size ≤ 9223372036854775807) :
    Calls Try.prog 12 #[.string s] w (True' w) := by
  by_cases h6 : 600 < s.size
  · go_enter Try.func12, Try.ntmps12
    go_wp2_with fail
    go_ret
    exact ⟨rfl, Upd.refl _ _⟩
  · have H1 := hid (fun w => Need_any s w hs)
    have H2 := hid (fun w => rNeed_any s w (by omega))
    have H3 := hid (fun w => Valid_any s w hs)
    generalize need s.data.toList = r at *
    obtain ⟨m, b⟩ := r
    simp only at H1 H2 H3
    cases b with
    | true =>
      by_cases hm : m = 0
      · subst hm
        go_enter Try.func12, Try.ntmps12
        go_wp2_with fail
        refine (H1.out _).mono ?_
        rintro e w' ⟨rfl, rfl⟩
        go_wp2_with fail
        refine (H2.out _).mono ?_
        rintro e w2 ⟨rfl, hn⟩
        go_wp2_with fail
        refine (H3.out _).mono ?_
        rintro e w' ⟨rfl, rfl⟩
        go_wp2_with fail
        refine (awake3_any _).mono ?_
        rintro e w' ⟨rfl, rfl⟩
        go_wp2_with fail
        go_ret
        exact ⟨rfl, hn⟩
      · have hm' : ((m : Int) == 0) = false := beq_eq_false_iff_ne.mpr (by omega)
        rw [decide_eq_false hm, Bool.and_false] at H3
        go_enter Try.func12, Try.ntmps12
        go_wp2_with fail
        refine (H1.out _).mono ?_
        rintro e w' ⟨rfl, rfl⟩
        go_wp2_with fail
        refine (H2.out _).mono ?_
        rintro e w2 ⟨rfl, hn⟩
        go_wp2_with fail
        refine (H3.out _).mono ?_
        rintro e w' ⟨rfl, rfl⟩
        go_wp2_with fail
        refine (awake3_any _).mono ?_
        rintro e w' ⟨rfl, rfl⟩
        go_wp2_with fail
        go_ret
        exact ⟨rfl, hn⟩
    | false =>
      rw [Bool.false_and] at H3
      go_enter Try.func12, Try.ntmps12
      go_wp2_with fail
      refine (H1.out _).mono ?_
      rintro e w' ⟨rfl, rfl⟩
      go_wp2_with fail
      refine (H2.out _).mono ?_
      rintro e w2 ⟨rfl, hn⟩
      go_wp2_with fail
      refine (H3.out _).mono ?_
      rintro e w' ⟨rfl, rfl⟩
      go_wp2_with fail
      refine (awake3_any _).mono ?_
      rintro e w' ⟨rfl, rfl⟩
      go_wp2_with fail
      go_ret
      exact ⟨rfl, hn⟩
end Go.Proofs.Ytlmimlnflcfccaa
