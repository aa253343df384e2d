/-
  The walks of spans: the program's.
-/
import Derived.Test.YtjagimlmclejeaaChecked
import Derived.Test.YtjagimlmclejeaaJ4
import Derived.Test.YtjagimlmclejeaaJ1
import Derived.Deep.RegionHeld3
import Derived.Deep.DeepCutAuto
namespace Go.Proofs.Ytjagimlmclejeaa
open Go.RowKit Go.Proofs.Own Go.Proofs.Span
set_option maxRecDepth 100000
set_option maxHeartbeats 2000000

theorem endless_any (mn mx : Int) (w : World) :
    Calls Try.prog 74 #[.agg #[.int .i64 mn, .int .i64 mx]] w fun e w' => e = .returned (.bool (decide (1099511627776 ≤ mx))) ∧ w.alloc (.cells #[.int .i64 mn, .int .i64 mx] 66) = w' := by
  go_enter Try.func74, Try.ntmps74
  go_wp2_with fail
  go_ret
  exact ⟨rfl, rfl⟩

theorem has_any (mn mx n : Int) (w : World) :
    Calls Try.prog 60 #[.agg #[.int .i64 mn, .int .i64 mx], .int .i64 n] w fun e w' => e = .returned (.bool (has mn mx n)) ∧ New w w' := by
  have HE := hid (endless_any mn mx)
  have HV : Hid (has mn mx n = (decide (mn ≤ n) && (decide (1099511627776 ≤ mx) || decide (n ≤ mx)))) := by show _ = _; rfl
  by_cases h1 : mn ≤ n
  · by_cases h2 : (1099511627776 : Int) ≤ mx
    · have HW : Hid ((decide (mn ≤ n) && (decide (1099511627776 ≤ mx) || decide (n ≤ mx))) = true) := by show _ = _; simp [h1, h2]
      go_enter Try.func60, Try.ntmps60
      go_wp2_with (refine (HE.out _).mono ?_; rintro e w' ⟨rfl, rfl⟩)
      go_ret
      rw [HV.out, HW.out]
      exact ⟨rfl, ((Upd.refl _ _).alloc _).alloc _⟩
    · have HW : Hid ((decide (mn ≤ n) && (decide (1099511627776 ≤ mx) || decide (n ≤ mx))) = decide (n ≤ mx)) := by show _ = _; simp [h1, h2]
      have H2 := hid h2
      go_enter Try.func60, Try.ntmps60
      go_wp2_with (refine (HE.out _).mono ?_; rintro e w' ⟨rfl, rfl⟩)
      go_ret
      refine ⟨?_, ((Upd.refl _ _).alloc _).alloc _⟩
      rw [HV.out, HW.out]
      show Ending.returned (Value.bool (decide (1099511627776 ≤ mx) || decide (n ≤ mx))) = _
      rw [decide_eq_false (by have := H2.out; omega)]
      rfl
  · have HW : Hid ((decide (mn ≤ n) && (decide (1099511627776 ≤ mx) || decide (n ≤ mx))) = false) := by show _ = _; simp [h1]
    go_enter Try.func60, Try.ntmps60
    go_wp2_with fail
    go_ret
    rw [HV.out, HW.out]
    exact ⟨rfl, (Upd.refl _ _).alloc _⟩

theorem and_any (an ax bn bx : Int) (w : World) (h1 : 0 ≤ an) (h2 : an ≤ 1000000000000000) (h3 : 0 ≤ bn) (h4 : bn ≤ 1000000000000000) (h5 : 0 ≤ ax) (h6 : 0 ≤ bx) :
    Calls Try.prog 57 #[.agg #[.int .i64 an, .int .i64 ax], .agg #[.int .i64 bn, .int .i64 bx]] w fun e w' =>
      e = .returned (.agg #[.int .i64 (an + bn), .int .i64 (most ax bx)]) ∧ New w w' := by
  have HE := hid endless_any
  by_cases ha : (1099511627776 : Int) ≤ ax
  · have HW : Hid (most ax bx = 1099511627776) := by show _ = _; unfold most; rw [if_pos (by omega)]
    go_enter Try.func57, Try.ntmps57
    go_wp2_with (refine (HE.out _ _ _).mono ?_; rintro e w' ⟨rfl, rfl⟩)
    refine ret_agg rfl Try.underlying66 rfl (w.heap.size + 1 + 1) #[.int .i64 (an + bn), .int .i64 1099511627776] 66 (by kernel_rfl) rfl rfl ?_ ?_
    · repeat (first | (refine hp_new ?_; simp; done) | (refine hp_old ?_ ?_; · (simp <;> omega)))
    · rw [HW.out]
      exact ⟨rfl, by repeat (first | exact Upd.refl _ _ | apply Upd.alloc)⟩
  · have hd1 : decide ((1099511627776 : Int) ≤ ax) = false := decide_eq_false ha
    by_cases hb : (1099511627776 : Int) ≤ bx
    · have HW : Hid (most ax bx = 1099511627776) := by show _ = _; unfold most; rw [if_pos (by omega)]
      have hd2 : decide ((1099511627776 : Int) ≤ bx) = true := decide_eq_true hb
      go_enter Try.func57, Try.ntmps57
      go_wp2_with (refine (HE.out _ _ _).mono ?_; rintro e w' ⟨rfl, rfl⟩)
      refine ret_agg rfl Try.underlying66 rfl (w.heap.size + 1 + 1) #[.int .i64 (an + bn), .int .i64 1099511627776] 66 (by kernel_rfl) rfl rfl ?_ ?_
      · repeat (first | (refine hp_new ?_; simp; done) | (refine hp_old ?_ ?_; · (simp <;> omega)))
      · rw [HW.out]
        exact ⟨rfl, by repeat (first | exact Upd.refl _ _ | apply Upd.alloc)⟩
    · have hd2 : decide ((1099511627776 : Int) ≤ bx) = false := decide_eq_false hb
      by_cases hs : ax + bx ≤ 1099511627776
      · have HW : Hid (most ax bx = ax + bx) := by show _ = _; unfold most; rw [if_neg (by omega)]
        go_enter Try.func57, Try.ntmps57
        go_wp2_with (refine (HE.out _ _ _).mono ?_; rintro e w' ⟨rfl, rfl⟩)
        refine ret_agg rfl Try.underlying66 rfl (w.heap.size + 1 + 1) #[.int .i64 (an + bn), .int .i64 (ax + bx)] 66 (by kernel_rfl) rfl rfl ?_ ?_
        · repeat (first | (refine hp_new ?_; simp; done) | (refine hp_old ?_ ?_; · (simp <;> omega)))
        · rw [HW.out]
          exact ⟨rfl, by repeat (first | exact Upd.refl _ _ | apply Upd.alloc)⟩
      · have HW : Hid (most ax bx = 1099511627776) := by show _ = _; unfold most; rw [if_pos (by omega)]
        go_enter Try.func57, Try.ntmps57
        go_wp2_with (refine (HE.out _ _ _).mono ?_; rintro e w' ⟨rfl, rfl⟩)
        refine ret_agg rfl Try.underlying66 rfl (w.heap.size + 1 + 1) #[.int .i64 (an + bn), .int .i64 1099511627776] 66 (by kernel_rfl) rfl rfl ?_ ?_
        · repeat (first | (refine hp_new ?_; simp; done) | (refine hp_old ?_ ?_; · (simp <;> omega)))
        · rw [HW.out]
          exact ⟨rfl, by repeat (first | exact Upd.refl _ _ | apply Upd.alloc)⟩

/-- a count, several times -/
def tm (n a : Int) : Int := if n ≤ 0 then 0 else mul n a
theorem mul_top (n a : Int) (hn : 1 ≤ n) (ha : 1099511627776 ≤ a) : mul n a = 1099511627776 := by
  have : 1 * a ≤ n * a := Int.mul_le_mul_of_nonneg_right hn (by omega)
  unfold mul; split <;> omega
end Go.Proofs.Ytjagimlmclejeaa

namespace Go.Proofs.Ytjagimlmclejeaa
open Go.RowKit Go.Proofs.Own Go.Proofs.Span
set_option maxRecDepth 100000
set_option maxHeartbeats 2000000

theorem nothing_any (w : World) :
    Calls Try.prog 87 #[] w fun e w' => e = .returned (.agg #[.int .u64 1, .int .u64 0]) ∧ w.alloc (.cells #[.int .u64 1, .int .u64 0] 113) = w' := by
  go_enter Try.func87, Try.ntmps87
  go_wp2_with fail
  refine ret_agg rfl Try.underlying113 rfl w.heap.size #[.int .u64 1, .int .u64 0] 113 (by kernel_rfl) rfl rfl ?_ ?_
  · repeat (first | (refine hp_new ?_; simp; done) | (refine hp_old ?_ ?_; · (simp <;> omega)))
  · exact ⟨rfl, rfl⟩

theorem up_any (a b : Int) (w : World) (h1 : 1 ≤ a) (h2 : a ≤ 1000000000000000) (h3 : 1 ≤ b) (h4 : b ≤ 1000000000000000) :
    Calls Try.prog 88 #[.int .i64 a, .int .i64 b] w fun e w' => e = .returned (.int .i64 ((a - 1) / b + 1)) ∧ w = w' := by
  have hb : max b 1 = b := by omega
  have hq0 : 0 ≤ (a - 1) / b := Int.ediv_nonneg (by omega) (by omega)
  have hq1 : (a - 1) / b ≤ a - 1 := Int.ediv_le_self _ (by omega)
  go_enter Try.func88, Try.ntmps88
  go_wp2_with fail
  go_ret
  exact ⟨rfl, rfl⟩

theorem within_any (n h : Int) (w : World) :
    Calls Try.prog 86 #[.int .i64 n, .int .i64 h] w fun e w' => e = .returned (.int .i64 (min (max n 0) h)) ∧ w = w' := by
  obtain ⟨a, ha⟩ : ∃ a, max n 0 = a := ⟨_, rfl⟩
  obtain ⟨b, hb⟩ : ∃ b, min a h = b := ⟨_, rfl⟩
  have HW : Hid (min (max n 0) h = b) := by show _ = _; rw [ha, hb]
  have ha' : (if n < 0 then (0 : Int) else n) = a := by split <;> omega
  have hb' : (if h < a then h else a) = b := by split <;> omega
  go_enter Try.func86, Try.ntmps86
  go_wp2_with fail
  go_ret
  exact ⟨by rw [HW.out]; rfl, rfl⟩

theorem between_any (lo hi : Int) (w : World) (h1 : lo ≤ 9223372036854775807) (h2 : -9223372036854775808 ≤ hi) :
    Calls Try.prog 89 #[.int .i64 lo, .int .i64 hi] w fun e w' =>
      e = .returned (.agg #[.int .u64 (between lo hi).1, .int .u64 (between lo hi).2]) ∧
        (w.alloc (.cells #[.int .u64 (between lo hi).1, .int .u64 (between lo hi).2] 113) = w' ∨
         (w.alloc (.cells #[.int .u64 1, .int .u64 0] 113)).alloc (.cells #[.int .u64 1, .int .u64 0] 113) = w') := by
  obtain ⟨a, ha⟩ : ∃ a, max lo 0 = a := ⟨_, rfl⟩
  obtain ⟨b, hb⟩ : ∃ b, min hi 4294967295 = b := ⟨_, rfl⟩
  have a0 : 0 ≤ a := by omega
  have a1 : a ≤ 9223372036854775807 := by omega
  have b1 : b ≤ 4294967295 := by omega
  have ha' : (if lo < 0 then (0 : Int) else lo) = a := by split <;> omega
  have hb' : (if 4294967295 < hi then (4294967295 : Int) else hi) = b := by split <;> omega
  have HE := hid nothing_any
  by_cases hc : b < a
  · have HW : Hid (between lo hi = (1, 0)) := by show _ = _; unfold between; rw [if_pos (by omega)]
    go_enter Try.func89, Try.ntmps89
    go_wp2_with (refine (HE.out _).mono ?_; rintro e w' ⟨rfl, rfl⟩)
    refine ret_agg rfl Try.underlying113 rfl w.heap.size #[.int .u64 1, .int .u64 0] 113 (by kernel_rfl) rfl rfl ?_ ?_
    · repeat (first | (refine hp_new ?_; simp; done) | (refine hp_old ?_ ?_; · (simp <;> omega)))
    · rw [HW.out]
      exact ⟨rfl, .inr rfl⟩
  · have HW : Hid (between lo hi = (a, b)) := by show _ = _; unfold between; rw [if_neg (by omega), ha, hb]
    go_enter Try.func89, Try.ntmps89
    go_wp2_with fail
    refine ret_agg rfl Try.underlying113 rfl w.heap.size #[.int .u64 a, .int .u64 b] 113 (by kernel_rfl) rfl rfl ?_ ?_
    · repeat (first | (refine hp_new ?_; simp; done) | (refine hp_old ?_ ?_; · (simp <;> omega)))
    · rw [HW.out]
      exact ⟨rfl, .inl rfl⟩

theorem between_all (lo hi : Int) : 0 ≤ (between lo hi).1 ∧ (between lo hi).1 ≤ 4294967295 ∧ 0 ≤ (between lo hi).2 ∧ (between lo hi).2 ≤ 4294967295 ∧
    ((between lo hi).2 < (between lo hi).1 → (between lo hi) = (1, 0)) := by
  unfold between; split
  · simp
  · simp only; refine ⟨by omega, by omega, by omega, by omega, by omega⟩
theorem counts_all (iMin iMax bMin bMax r : Int) : 0 ≤ (counts iMin iMax bMin bMax r).1 ∧ (counts iMin iMax bMin bMax r).1 ≤ 4294967295 ∧ 0 ≤ (counts iMin iMax bMin bMax r).2 ∧ (counts iMin iMax bMin bMax r).2 ≤ 4294967295 ∧
    ((counts iMin iMax bMin bMax r).2 < (counts iMin iMax bMin bMax r).1 → (counts iMin iMax bMin bMax r) = (1, 0)) := by
  unfold counts; split
  · simp
  · exact between_all _ _
theorem sizes_all (oMin oMax bMin bMax r : Int) : 0 ≤ (sizes oMin oMax bMin bMax r).1 ∧ (sizes oMin oMax bMin bMax r).1 ≤ 4294967295 ∧ 0 ≤ (sizes oMin oMax bMin bMax r).2 ∧ (sizes oMin oMax bMin bMax r).2 ≤ 4294967295 ∧
    ((sizes oMin oMax bMin bMax r).2 < (sizes oMin oMax bMin bMax r).1 → (sizes oMin oMax bMin bMax r) = (1, 0)) := by
  unfold sizes; split
  · split
    · exact between_all _ _
    · simp
  · exact between_all _ _
theorem least_bd {iMax bMax r : Int} (h1 : 1 ≤ iMax) (h2 : 0 ≤ bMax) (h0 : 0 ≤ r) (h3 : r ≤ 1099511627776) : 0 ≤ least iMax bMax r ∧ least iMax bMax r ≤ 1099511627777 := by
  unfold least
  split
  · split
    · omega
    · have hq0 : 0 ≤ (r - bMax - 1) / iMax := Int.ediv_nonneg (by omega) (by omega)
      have hq1 : (r - bMax - 1) / iMax ≤ r - bMax - 1 := Int.ediv_le_self _ (by omega)
      omega
  · omega

theorem Counts_any (iMin iMax bMin bMax r : Int) (w : World) (hi : item iMin iMax) (hb : wide bMin bMax) (h0 : 0 ≤ r) (h1 : r ≤ 1099511627776) :
    Calls Try.prog 85 #[.agg #[.int .i64 iMin, .int .i64 iMax], .agg #[.int .i64 bMin, .int .i64 bMax], .int .i64 r] w fun e w' =>
      e = .returned (.agg #[.int .u64 (counts iMin iMax bMin bMax r).1, .int .u64 (counts iMin iMax bMin bMax r).2]) ∧ New w w' := by
  obtain ⟨⟨i1, i2, i3, i4⟩, i5, i6, i7⟩ := hi
  obtain ⟨b1, b2, b3, b4⟩ := hb
  have HN := hid nothing_any
  have HE := hid endless_any
  have hl := least_bd (iMax := iMax) (bMax := bMax) (r := r) (by omega) (by omega) h0 h1
  by_cases hr : r < bMin
  · have HW : Hid (counts iMin iMax bMin bMax r = (1, 0)) := if_pos hr
    go_enter Try.func85, Try.ntmps85
    go_wp2_with (refine (HN.out _).mono ?_; rintro e w' ⟨rfl, rfl⟩)
    refine ret_agg rfl Try.underlying113 rfl (w.heap.size + 1 + 1) #[.int .u64 1, .int .u64 0] 113 (by kernel_rfl) rfl rfl ?_ ?_
    · repeat (first | (refine hp_new ?_; simp; done) | (refine hp_old ?_ ?_; · (simp <;> omega)))
    · rw [HW.out]
      exact ⟨rfl, by repeat (first | exact Upd.refl _ _ | apply Upd.alloc)⟩
  · obtain ⟨q, hq⟩ : ∃ q, (r - bMin) / iMin = q := ⟨_, rfl⟩
    have q0 : 0 ≤ q := by rw [← hq]; exact Int.ediv_nonneg (by omega) (by omega)
    have hm : (if iMin < 1 then (1 : Int) else iMin) = iMin := if_neg (by omega)
    obtain ⟨L, hL⟩ : ∃ L, least iMax bMax r = L := ⟨_, rfl⟩
    rw [hL] at hl
    have HW : Hid (counts iMin iMax bMin bMax r = between L q) := by show _ = _; unfold counts; rw [if_neg hr, hL, hq]
    have HB := hid (fun w => between_any L q w (by omega) (by omega))
    generalize (between L q) = c at *
    by_cases hs : bMax < 1099511627776 ∧ bMax < r
    · obtain ⟨s1, s2⟩ := hs
      have hd : decide ((1099511627776 : Int) ≤ bMax) = false := decide_eq_false (by omega)
      by_cases he : (1099511627776 : Int) ≤ iMax
      · have hd2 : decide ((1099511627776 : Int) ≤ iMax) = true := decide_eq_true he
        have hL1 : L = 1 := by rw [← hL]; unfold least; rw [if_pos ⟨s1, s2⟩, if_pos he]
        clear hL
        subst hL1
        go_enter Try.func85, Try.ntmps85
        go_wp2_with (first | (go_at_call 74; refine (HE.out _ _ _).mono ?_; rintro e w' ⟨rfl, rfl⟩) | (go_at_call 89; refine (HB.out _).mono ?_; rintro e w' ⟨rfl, rfl | rfl⟩) | (go_at_call 88; refine (HU.out _).mono ?_; rintro e w' ⟨rfl, rfl⟩))
        all_goals refine ret_agg rfl Try.underlying113 rfl (w.heap.size + 1 + 1) #[.int .u64 c.1, .int .u64 c.2] 113 (by kernel_rfl) rfl rfl ?_ ?_
        all_goals first
          | (rw [HW.out]; exact ⟨rfl, by repeat (first | exact Upd.refl _ _ | apply Upd.alloc)⟩)
          | (repeat (first | (refine hp_new ?_; simp; done) | (refine hp_old ?_ ?_; · (simp <;> omega))))
      · have hd2 : decide ((1099511627776 : Int) ≤ iMax) = false := decide_eq_false he
        have hL1 : (r - bMax - 1) / iMax + 1 = L := by rw [← hL]; unfold least; rw [if_pos ⟨s1, s2⟩, if_neg he]
        clear hL
        have HU := hid (fun w => up_any (r - bMax) iMax w (by omega) (by omega) (by omega) (by omega))
        rw [hL1] at HU
        go_enter Try.func85, Try.ntmps85
        go_wp2_with (first | (go_at_call 74; refine (HE.out _ _ _).mono ?_; rintro e w' ⟨rfl, rfl⟩) | (go_at_call 89; refine (HB.out _).mono ?_; rintro e w' ⟨rfl, rfl | rfl⟩) | (go_at_call 88; refine (HU.out _).mono ?_; rintro e w' ⟨rfl, rfl⟩))
        all_goals refine ret_agg rfl Try.underlying113 rfl (w.heap.size + 1 + 1) #[.int .u64 c.1, .int .u64 c.2] 113 (by kernel_rfl) rfl rfl ?_ ?_
        all_goals first
          | (rw [HW.out]; exact ⟨rfl, by repeat (first | exact Upd.refl _ _ | apply Upd.alloc)⟩)
          | (repeat (first | (refine hp_new ?_; simp; done) | (refine hp_old ?_ ?_; · (simp <;> omega))))
    · have hL1 : L = 0 := by rw [← hL]; unfold least; rw [if_neg hs]
      clear hL
      subst hL1
      by_cases he : (1099511627776 : Int) ≤ bMax
      · have hd : decide ((1099511627776 : Int) ≤ bMax) = true := decide_eq_true he
        go_enter Try.func85, Try.ntmps85
        go_wp2_with (first | (go_at_call 74; refine (HE.out _ _ _).mono ?_; rintro e w' ⟨rfl, rfl⟩) | (go_at_call 89; refine (HB.out _).mono ?_; rintro e w' ⟨rfl, rfl | rfl⟩) | (go_at_call 88; refine (HU.out _).mono ?_; rintro e w' ⟨rfl, rfl⟩))
        all_goals refine ret_agg rfl Try.underlying113 rfl (w.heap.size + 1 + 1) #[.int .u64 c.1, .int .u64 c.2] 113 (by kernel_rfl) rfl rfl ?_ ?_
        all_goals first
          | (rw [HW.out]; exact ⟨rfl, by repeat (first | exact Upd.refl _ _ | apply Upd.alloc)⟩)
          | (repeat (first | (refine hp_new ?_; simp; done) | (refine hp_old ?_ ?_; · (simp <;> omega))))
      · have hd : decide ((1099511627776 : Int) ≤ bMax) = false := decide_eq_false he
        have hd3 : ¬ bMax < r := fun h => hs ⟨by omega, h⟩
        clear hs
        go_enter Try.func85, Try.ntmps85
        go_wp2_with (first | (go_at_call 74; refine (HE.out _ _ _).mono ?_; rintro e w' ⟨rfl, rfl⟩) | (go_at_call 89; refine (HB.out _).mono ?_; rintro e w' ⟨rfl, rfl | rfl⟩) | (go_at_call 88; refine (HU.out _).mono ?_; rintro e w' ⟨rfl, rfl⟩))
        all_goals refine ret_agg rfl Try.underlying113 rfl (w.heap.size + 1 + 1) #[.int .u64 c.1, .int .u64 c.2] 113 (by kernel_rfl) rfl rfl ?_ ?_
        all_goals first
          | (rw [HW.out]; exact ⟨rfl, by repeat (first | exact Upd.refl _ _ | apply Upd.alloc)⟩)
          | (repeat (first | (refine hp_new ?_; simp; done) | (refine hp_old ?_ ?_; · (simp <;> omega))))

end Go.Proofs.Ytjagimlmclejeaa

namespace Go.Proofs.Ytjagimlmclejeaa
open Go.RowKit Go.Proofs.Own Go.Proofs.Span
set_option maxRecDepth 100000
set_option maxHeartbeats 2000000

/-- a slice of ranges that can be read -/
def RdP (w : World) (v : Value) (rs : List (Nat × Nat)) : Prop :=
  ∃ a cap, v = .slice a rs.length cap ∧ rs.length ≤ cap ∧ (a = none → cap = 0) ∧ (rs ≠ [] → ∃ b o, a = some ⟨b, o, none⟩ ∧
    ∀ i (h : i < rs.length), w.cell? ⟨b, o + i * 2, none⟩ = some (.int .u64 rs[i].1) ∧ w.cell? ⟨b, o + i * 2 + 1, none⟩ = some (.int .u64 rs[i].2))
theorem RdP.new {w w' : World} {v : Value} {rs : List (Nat × Nat)} (h : RdP w v rs) (hn : New w w') : RdP w' v rs := by
  obtain ⟨a, cap, rfl, h1, h2, h3⟩ := h
  refine ⟨a, cap, rfl, h1, h2, fun hne => ?_⟩
  obtain ⟨b, o, rfl, hc⟩ := h3 hne
  exact ⟨b, o, rfl, fun i hi => ⟨hn.cell (hc i hi).1 (fun h => h), hn.cell (hc i hi).2 (fun h => h)⟩⟩

theorem within_nat (n h : Nat) (w : World) (hn : n ≤ h) :
    Calls Try.prog 86 #[.int .i64 n, .int .i64 h] w fun e w' => e = .returned (.int .i64 n) ∧ w = w' := by
  have hc := within_any n h w
  rw [show min (max (n : Int) 0) h = n by omega] at hc
  exact hc

/-- 'look', its powers named -/
def lookN (lo hi low S R T : Nat) : Bool :=
  decide (lo ≤ min hi T) && decide (low ≤ min hi T) && (decide ((if low < lo then (lo - low - 1) / S + 1 else 0) < R) && decide (low + (if low < lo then (lo - low - 1) / S + 1 else 0) * S ≤ min hi T))

theorem Fits_any (v : Value) (rs : List (Nat × Nat)) (low s l b : Nat) (w : World) (hr : RdP w v rs) (hlen : rs.length ≤ 1000000) (hs : s ≤ 63) (hl : l ≤ 9) (hb : b ≤ 63) (hlow : low < 2 ^ s)
    (hrs : ∀ i (h : i < rs.length), rs[i].1 < 18446744073709551616 ∧ rs[i].2 < 18446744073709551616) :
    Calls Try.prog 82 #[v, .int .u64 low, .int .i64 s, .int .i64 l, .int .i64 b] w fun e w' => e = .returned (.bool (rs.any fun x => Span.look x.1 x.2 low s l b)) ∧ New w w' := by
  obtain ⟨S, hS⟩ : ∃ S, 2 ^ s = S := ⟨_, rfl⟩
  obtain ⟨R, hR⟩ : ∃ R, 2 ^ (7 * l) = R := ⟨_, rfl⟩
  obtain ⟨T, hT⟩ : ∃ T, 2 ^ b = T + 1 := ⟨2 ^ b - 1, by have : 0 < 2 ^ b := Nat.pow_pos (by decide); omega⟩
  have p63 : (2 : Nat) ^ 63 = 9223372036854775808 := by decide
  have S1 : S ≤ 9223372036854775808 := by rw [← hS, ← p63]; exact Nat.pow_le_pow_right (by decide) hs
  have S0 : 0 < S := by rw [← hS]; exact Nat.pow_pos (by decide)
  have R00 : 0 < R := by rw [← hR]; exact Nat.pow_pos (by decide)
  have R1 : R ≤ 9223372036854775808 := by rw [← hR, ← p63]; exact Nat.pow_le_pow_right (by decide) (by omega)
  have T1 : T < 9223372036854775808 := by have : (2 : Nat) ^ b ≤ 2 ^ 63 := Nat.pow_le_pow_right (by decide) hb; omega
  have i1 : (2 : Int) ^ s = S := by rw [← hS]; simp
  have i2 : (2 : Int) ^ (7 * l) = R := by rw [← hR]; simp
  have i3 : (2 : Int) ^ b = T + 1 := by have := congrArg (fun t : Nat => (t : Int)) hT; simpa using this
  have HL : Hid (∀ lo hi, Span.look lo hi low s l b = lookN lo hi low S R T) := by
    intro lo hi
    unfold Span.look lookN
    rw [hS, hR, hT, Nat.add_sub_cancel]
  have HNO : Hid ((∀ j (hj : j < rs.length), lookN rs[j].1 rs[j].2 low S R T = false) → (rs.any fun x => Span.look x.1 x.2 low s l b) = false) := by
    intro h
    rw [List.any_eq_false]
    intro x hx
    obtain ⟨j, hj, rfl⟩ := List.mem_iff_getElem.mp hx
    rw [HL.out, h j hj]
    simp
  rw [hS] at hlow
  clear p63 hS hR hT
  have HR := hid hr
  obtain ⟨a, cap, rfl, hcap, hnil, hcell⟩ := hr
  have HI1 := hid (within_nat s 63 · hs)
  have HI2 := hid (within_nat l 9 · hl)
  have HI3 := hid (within_nat b 63 · hb)
  have HA := hid hcell
  clear hcell
  go_enter Try.func82, Try.ntmps82
  go_wp2_with fail
  go_step3
  go_wp2_with fail
  refine (HI1.out _).mono ?_
  rintro e w' ⟨rfl, rfl⟩
  go_wp2_with fail
  refine (HI2.out _).mono ?_
  rintro e w' ⟨rfl, rfl⟩
  go_wp2_with fail
  refine (HI3.out _).mono ?_
  rintro e w' ⟨rfl, rfl⟩
  go_wp2_with fail
  rw [i2]
  go_step3
  go_wp2_with fail
  go_loopg [31] rs.length (fun k p wr => ∃ i : Nat, k = rs.length - i ∧ p = .int .i64 i ∧ i ≤ rs.length ∧ New w wr ∧ ∀ j (_ : j < i) (hj : j < rs.length), lookN rs[j].1 rs[j].2 low S R T = false)
  case atStart => exact ⟨0, by simp, rfl, Nat.zero_le _, Upd.refl _ _, fun j h => absurd h (Nat.not_lt_zero _)⟩
  case round =>
    obtain ⟨i, rfl, rfl, hi, hw, hbefore⟩ := hrel
    have HBF := hid hbefore
    have HW := hid hw
    clear hbefore hw
    by_cases hlt : i < rs.length
    · obtain ⟨bl, of, rfl, hcell⟩ := HA.out (by intro h; subst h; simp at hlt)
      have hc0 := HW.out.cell (hcell i hlt).1 (fun h => h)
      have hc1 := HW.out.cell (hcell i hlt).2 (fun h => h)
      have hbd := hrs i hlt
      have HX := hid (fun (h : lookN rs[i].1 rs[i].2 low S R T = false) => (show ∀ j (_ : j < i + 1) (hj : j < rs.length), lookN rs[j].1 rs[j].2 low S R T = false from fun j h1 h2 => by
        rcases Nat.lt_or_ge j i with h3 | h3
        · exact HBF.out j h3 h2
        · have : j = i := by omega
          subst this
          exact h))
      have HY := hid (fun (h : lookN rs[i].1 rs[i].2 low S R T = true) => (show (rs.any fun x => Span.look x.1 x.2 low s l b) = true from List.any_eq_true.mpr ⟨rs[i], List.getElem_mem _, by rw [HL.out]; exact h⟩))
      clear hcell
      generalize hlo : rs[i].1 = lo at *
      generalize hhi : rs[i].2 = hi' at *
      clear hlo hhi
      obtain ⟨H, hH⟩ : ∃ H, min hi' T = H := ⟨_, rfl⟩
      have H1 : (if T < hi' then (T : Int) else (hi' : Int)) = H := by split <;> omega
      have H2 : H ≤ T := by omega
      have HH := hid hH
      clear hH
      by_cases ca : H < lo
      · have hv : Hid (lookN lo hi' low S R T = false) := by show _ = _; unfold lookN; rw [HH.out, decide_eq_false (by omega : ¬ lo ≤ H)]; rfl
        go_wp2_with fail
        go_roundg (rs.length - (i + 1))
        case measure => omega
        case rel => exact ⟨i + 1, rfl, by go_num, by omega, HW.out.alloc _, HX.out hv.out⟩
      · by_cases cb : H < low
        · have hv : Hid (lookN lo hi' low S R T = false) := by show _ = _; unfold lookN; rw [HH.out, decide_eq_false (by omega : ¬ low ≤ H), Bool.and_false]; rfl
          go_wp2_with fail
          go_roundg (rs.length - (i + 1))
          case measure => omega
          case rel => exact ⟨i + 1, rfl, by go_num, by omega, HW.out.alloc _, HX.out hv.out⟩
        · have hv0 : lookN lo hi' low S R T = (decide ((if low < lo then (lo - low - 1) / S + 1 else 0) < R) && decide (low + (if low < lo then (lo - low - 1) / S + 1 else 0) * S ≤ H)) := by
            unfold lookN; rw [HH.out, decide_eq_true (by omega : lo ≤ H), decide_eq_true (by omega : low ≤ H)]; rfl
          by_cases cc : low < lo
          · rw [if_pos cc] at hv0
            obtain ⟨q, hq⟩ : ∃ q, (lo - low - 1) / S = q := ⟨_, rfl⟩
            have q1 : ((lo : Int) - low - 1) / S = q := by rw [← hq, Int.natCast_ediv]; congr 1; omega
            have q2 : q ≤ lo - low - 1 := by rw [← hq]; exact Nat.div_le_self _ _
            have q3 : q * S ≤ lo - low - 1 := by rw [← hq]; exact Nat.div_mul_le_self _ _
            rw [hq] at hv0
            obtain ⟨m, hm⟩ : ∃ m, (q + 1) * S = m := ⟨_, rfl⟩
            have m1 : ((q : Int) + 1) * S = m := by rw [← hm]; simp
            have m2 : m ≤ lo - low - 1 + S := by rw [← hm, Nat.add_mul]; omega
            rw [hm] at hv0
            clear hq hm
            by_cases cd : q + 1 < R
            · by_cases ce : low + m ≤ H
              · have hv : Hid (lookN lo hi' low S R T = true) := by show _ = _; rw [hv0, decide_eq_true cd, decide_eq_true ce]; rfl
                clear hv0
                have cd' : (q : Int) + 1 < R := by omega
                have ce' : (low : Int) + m ≤ H := by omega
                go_wp2_with fail
                rw [Exit.noGoto_ret]
                go_ret
                exact ⟨by rw [HY.out hv.out]; rfl, HW.out.alloc _⟩
              · have hv : Hid (lookN lo hi' low S R T = false) := by show _ = _; rw [hv0, decide_eq_false ce, Bool.and_false]
                clear hv0
                have ce' : ¬ (low : Int) + m ≤ H := by omega
                have cd' : (q : Int) + 1 < R := by omega
                go_wp2_with fail
                go_roundg (rs.length - (i + 1))
                case measure => omega
                case rel => exact ⟨i + 1, rfl, by go_num, by omega, HW.out.alloc _, HX.out hv.out⟩
            · have hv : Hid (lookN lo hi' low S R T = false) := by show _ = _; rw [hv0, decide_eq_false cd]; rfl
              clear hv0
              have cd' : ¬ (q : Int) + 1 < R := by omega
              go_wp2_with fail
              go_roundg (rs.length - (i + 1))
              case measure => omega
              case rel => exact ⟨i + 1, rfl, by go_num, by omega, HW.out.alloc _, HX.out hv.out⟩
          · rw [if_neg cc, Nat.zero_mul, Nat.add_zero] at hv0
            have R0 : 0 < R := R00
            have hv : Hid (lookN lo hi' low S R T = true) := by show _ = _; rw [hv0, decide_eq_true R0, decide_eq_true (by omega : low ≤ H)]; rfl
            clear hv0
            go_wp2_with fail
            rw [Exit.noGoto_ret]
            go_ret
            exact ⟨by rw [HY.out hv.out]; rfl, HW.out.alloc _⟩
    · go_wp2_with fail
      rw [Exit.noGoto_ret]
      go_ret
      refine ⟨?_, HW.out⟩
      rw [HNO.out (fun j hj => HBF.out j (by omega) hj)]
      rfl
theorem RdP.one (w : World) (a b : Nat) (t : TypeId) : RdP (w.alloc (.cells #[.int .u64 a, .int .u64 b] t)) (.slice (some ⟨w.heap.size, 0, none⟩) 1 1) [(a, b)] := by
  refine ⟨_, _, rfl, Nat.le_refl _, (fun h => by cases h), fun _ => ⟨_, _, rfl, fun i hi => ?_⟩⟩
  have : i = 0 := by simp at hi; exact hi
  subst this
  have hb : Blk (w.alloc (.cells #[.int .u64 a, .int .u64 b] t)) w.heap.size (.int .u64 a) (.int .u64 b) t := hp_new rfl
  exact ⟨hb.c0, hb.c1⟩
end Go.Proofs.Ytjagimlmclejeaa
