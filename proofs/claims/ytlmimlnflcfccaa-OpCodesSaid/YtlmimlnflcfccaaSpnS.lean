/-
  The walks of spans: the document's answers, second part.
-/
import Derived.Test.YtlmimlnflcfccaaSpnR
namespace Go.Proofs.Ytlmimlnflcfccaa
open Go.RowKit Go.Proofs.Own Go.Proofs.Span
set_option maxRecDepth 100000
set_option maxHeartbeats 800000

theorem ritem_any (mn mx : Int) (w : World) :
    Calls Try.prog 37 #[.agg #[.int .i64 mn, .int .i64 mx]] w fun e w' => e = .returned (.bool (itemB mn mx)) ∧ New w w' := by
  obtain ⟨c, hr⟩ : ∃ c, rightB mn mx = c := ⟨_, rfl⟩
  have HR := hid (right_any mn mx)
  rw [hr] at HR
  cases c with
  | false =>
    have HV : Hid (itemB mn mx = false) := by show _ = _; unfold itemB; rw [hr]; rfl
    clear hr
    go_enter Try.func37, Try.ntmps37
    go_wp2_with (go_at_call 28; refine (HR.out _).mono ?_; rintro e w' ⟨rfl, rfl⟩)
    go_ret
    exact ⟨by rw [HV.out]; rfl, by repeat (first | exact Upd.refl _ _ | apply Upd.alloc)⟩
  | true =>
    have HI : Hid (itemB mn mx = (decide (1 ≤ mn) && (decide (mn ≤ 31) && (decide (mx ≤ 31) || decide (1099511627776 ≤ mx))))) := by show _ = _; unfold itemB; rw [hr]; rfl
    clear hr
    by_cases h1 : (1 : Int) ≤ mn
    · by_cases h2 : mn ≤ 31
      · by_cases h3 : mx ≤ 31
        · have HV : Hid (itemB mn mx = true) := by show _ = _; rw [HI.out]; simp [h1, h2, h3]
          go_enter Try.func37, Try.ntmps37
          go_wp2_with (go_at_call 28; refine (HR.out _).mono ?_; rintro e w' ⟨rfl, rfl⟩)
          go_ret
          exact ⟨by rw [HV.out]; rfl, by repeat (first | exact Upd.refl _ _ | apply Upd.alloc)⟩
        · have HV : Hid (itemB mn mx = decide (1099511627776 ≤ mx)) := by show _ = _; rw [HI.out]; simp [h1, h2, h3]
          go_enter Try.func37, Try.ntmps37
          go_wp2_with (go_at_call 28; refine (HR.out _).mono ?_; rintro e w' ⟨rfl, rfl⟩)
          go_ret
          refine ⟨?_, by repeat (first | exact Upd.refl _ _ | apply Upd.alloc)⟩
          rw [HV.out]
          first | rfl | (show Ending.returned (Value.bool (decide (mx ≤ 31) || decide (1099511627776 ≤ mx))) = _; rw [decide_eq_false (by omega : ¬ mx ≤ 31)]; rfl)
      · have HV : Hid (itemB mn mx = false) := by show _ = _; rw [HI.out]; simp [h1, h2]
        go_enter Try.func37, Try.ntmps37
        go_wp2_with (go_at_call 28; refine (HR.out _).mono ?_; rintro e w' ⟨rfl, rfl⟩)
        go_ret
        exact ⟨by rw [HV.out]; rfl, by repeat (first | exact Upd.refl _ _ | apply Upd.alloc)⟩
    · have HV : Hid (itemB mn mx = false) := by show _ = _; rw [HI.out]; simp [h1]
      go_enter Try.func37, Try.ntmps37
      go_wp2_with (go_at_call 28; refine (HR.out _).mono ?_; rintro e w' ⟨rfl, rfl⟩)
      go_ret
      exact ⟨by rw [HV.out]; rfl, by repeat (first | exact Upd.refl _ _ | apply Upd.alloc)⟩

theorem parts_any (on ox bn bx r v : Int) (w : World) (r0 : 0 ≤ r) (r1 : r ≤ 1099511627776) (v0 : 0 ≤ v) (v1 : v ≤ 4294967295) :
    Calls Try.prog 42 #[.agg #[.int .i64 on, .int .i64 ox], .agg #[.int .i64 bn, .int .i64 bx], .int .i64 r, .int .i64 v] w fun e w' =>
      e = .returned (.bool (parts on ox bn bx r v)) ∧ New w w' := by
  obtain ⟨c, hh⟩ : ∃ c, has on ox v = c := ⟨_, rfl⟩
  have HH := hid (rhas_any on ox v)
  have HG := hid (rhas_any bn bx (r - v))
  rw [hh] at HH
  cases c with
  | false =>
    have HV : Hid (parts on ox bn bx r v = false) := by show _ = _; unfold parts; rw [if_pos (.inl hh)]
    clear hh
    go_enter Try.func42, Try.ntmps42
    go_wp2_with (go_at_call 31; refine (HH.out _).mono ?_; rintro e w' ⟨rfl, rfl⟩)
    go_ret
    exact ⟨by rw [HV.out]; rfl, by repeat (first | exact Upd.refl _ _ | apply Upd.alloc)⟩
  | true =>
    by_cases h1 : (1099511627776 : Int) ≤ r
    · have HV : Hid (parts on ox bn bx r v = decide (1099511627776 ≤ bx)) := by
        show _ = _; unfold parts; rw [if_neg (by rw [hh]; simp; omega), if_pos h1]
      clear hh
      go_enter Try.func42, Try.ntmps42
      go_wp2_with (go_at_call 31; refine (HH.out _).mono ?_; rintro e w' ⟨rfl, rfl⟩)
      go_ret
      exact ⟨by rw [HV.out]; rfl, by repeat (first | exact Upd.refl _ _ | apply Upd.alloc)⟩
    · by_cases h2 : r < v
      · have HV : Hid (parts on ox bn bx r v = false) := by show _ = _; unfold parts; rw [if_pos (.inr ⟨by omega, h2⟩)]
        clear hh
        go_enter Try.func42, Try.ntmps42
        go_wp2_with (go_at_call 31; refine (HH.out _).mono ?_; rintro e w' ⟨rfl, rfl⟩)
        go_ret
        exact ⟨by rw [HV.out]; rfl, by repeat (first | exact Upd.refl _ _ | apply Upd.alloc)⟩
      · have HV : Hid (parts on ox bn bx r v = has bn bx (r - v)) := by
          show _ = _; unfold parts; rw [if_neg (by rw [hh]; simp; omega), if_neg h1]
        clear hh
        go_enter Try.func42, Try.ntmps42
        go_wp2_with fail
        refine (HH.out _).mono ?_
        rintro e w' ⟨rfl, rfl⟩
        go_wp2_with fail
        refine (HG.out _).mono ?_
        rintro e w' ⟨rfl, rfl⟩
        go_wp2_with fail
        go_ret
        exact ⟨by rw [HV.out]; rfl, by repeat (first | exact Upd.refl _ _ | apply Upd.alloc)⟩
end Go.Proofs.Ytlmimlnflcfccaa
