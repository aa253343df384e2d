/-
  The walks of spans: which counts, which numbers.
-/
import Derived.Test.YtlmimlnflcfccaaSpnP
namespace Go.Proofs.Ytlmimlnflcfccaa
open Go.RowKit Go.Proofs.Own Go.Proofs.Span
set_option maxRecDepth 100000
set_option maxHeartbeats 2000000

theorem nothing_any (w : World) :
    Calls Try.prog 67 #[] w fun e w' => e = .returned (.agg #[.int .u64 1, .int .u64 0]) ∧ w.alloc (.cells #[.int .u64 1, .int .u64 0] 58) = w' := by
  go_enter Try.func67, Try.ntmps67
  go_wp2_with fail
  refine ret_agg rfl Try.underlying58 rfl w.heap.size #[.int .u64 1, .int .u64 0] 58 (by kernel_rfl) rfl rfl ?_ ?_
  · repeat (first | (refine hp_new ?_; simp; done) | (refine hp_old ?_ ?_; · (simp <;> omega)))
  · exact ⟨rfl, rfl⟩

theorem up_any (a b : Int) (w : World) (h1 : 1 ≤ a) (h2 : a ≤ 1000000000000000) (h3 : 1 ≤ b) (h4 : b ≤ 1000000000000000) :
    Calls Try.prog 68 #[.int .i64 a, .int .i64 b] w fun e w' => e = .returned (.int .i64 ((a - 1) / b + 1)) ∧ w = w' := by
  have hb : max b 1 = b := by omega
  have hq0 : 0 ≤ (a - 1) / b := Int.ediv_nonneg (by omega) (by omega)
  have hq1 : (a - 1) / b ≤ a - 1 := Int.ediv_le_self _ (by omega)
  go_enter Try.func68, Try.ntmps68
  go_wp2_with fail
  go_ret
  exact ⟨rfl, rfl⟩

theorem within_any (n h : Int) (w : World) :
    Calls Try.prog 70 #[.int .i64 n, .int .i64 h] w fun e w' => e = .returned (.int .i64 (min (max n 0) h)) ∧ w = w' := by
  obtain ⟨a, ha⟩ : ∃ a, max n 0 = a := ⟨_, rfl⟩
  obtain ⟨b, hb⟩ : ∃ b, min a h = b := ⟨_, rfl⟩
  have HW : Hid (min (max n 0) h = b) := by show _ = _; rw [ha, hb]
  have ha' : (if n < 0 then (0 : Int) else n) = a := by split <;> omega
  have hb' : (if h < a then h else a) = b := by split <;> omega
  go_enter Try.func70, Try.ntmps70
  go_wp2_with fail
  go_ret
  exact ⟨by rw [HW.out]; rfl, rfl⟩

theorem between_any (lo hi : Int) (w : World) (h1 : lo ≤ 9223372036854775807) (h2 : -9223372036854775808 ≤ hi) :
    Calls Try.prog 69 #[.int .i64 lo, .int .i64 hi] w fun e w' =>
      e = .returned (.agg #[.int .u64 (between lo hi).1, .int .u64 (between lo hi).2]) ∧
        (w.alloc (.cells #[.int .u64 (between lo hi).1, .int .u64 (between lo hi).2] 58) = w' ∨
         (w.alloc (.cells #[.int .u64 1, .int .u64 0] 58)).alloc (.cells #[.int .u64 1, .int .u64 0] 58) = w') := by
  obtain ⟨a, ha⟩ : ∃ a, max lo 0 = a := ⟨_, rfl⟩
  obtain ⟨b, hb⟩ : ∃ b, min hi 4294967295 = b := ⟨_, rfl⟩
  have a0 : 0 ≤ a := by omega
  have a1 : a ≤ 9223372036854775807 := by omega
  have b1 : b ≤ 4294967295 := by omega
  have ha' : (if lo < 0 then (0 : Int) else lo) = a := by split <;> omega
  have hb' : (if 4294967295 < hi then (4294967295 : Int) else hi) = b := by split <;> omega
  have HE := hid nothing_any
  by_cases hc : b < a
  · have HW : Hid (between lo hi = (1, 0)) := by show _ = _; unfold between; rw [if_pos (by omega)]
    go_enter Try.func69, Try.ntmps69
    go_wp2_with (refine (HE.out _).mono ?_; rintro e w' ⟨rfl, rfl⟩)
    refine ret_agg rfl Try.underlying58 rfl w.heap.size #[.int .u64 1, .int .u64 0] 58 (by kernel_rfl) rfl rfl ?_ ?_
    · repeat (first | (refine hp_new ?_; simp; done) | (refine hp_old ?_ ?_; · (simp <;> omega)))
    · rw [HW.out]
      exact ⟨rfl, .inr rfl⟩
  · have HW : Hid (between lo hi = (a, b)) := by show _ = _; unfold between; rw [if_neg (by omega), ha, hb]
    go_enter Try.func69, Try.ntmps69
    go_wp2_with fail
    refine ret_agg rfl Try.underlying58 rfl w.heap.size #[.int .u64 a, .int .u64 b] 58 (by kernel_rfl) rfl rfl ?_ ?_
    · repeat (first | (refine hp_new ?_; simp; done) | (refine hp_old ?_ ?_; · (simp <;> omega)))
    · rw [HW.out]
      exact ⟨rfl, .inl rfl⟩

theorem between_all (lo hi : Int) : 0 ≤ (between lo hi).1 ∧ (between lo hi).1 ≤ 4294967295 ∧ 0 ≤ (between lo hi).2 ∧ (between lo hi).2 ≤ 4294967295 ∧
    ((between lo hi).2 < (between lo hi).1 → (between lo hi) = (1, 0)) := by
  unfold between; split
  · simp
  · simp only; refine ⟨by omega, by omega, by omega, by omega, by omega⟩
theorem counts_all (iMin iMax bMin bMax r : Int) : 0 ≤ (counts iMin iMax bMin bMax r).1 ∧ (counts iMin iMax bMin bMax r).1 ≤ 4294967295 ∧ 0 ≤ (counts iMin iMax bMin bMax r).2 ∧ (counts iMin iMax bMin bMax r).2 ≤ 4294967295 ∧
    ((counts iMin iMax bMin bMax r).2 < (counts iMin iMax bMin bMax r).1 → (counts iMin iMax bMin bMax r) = (1, 0)) := by
  unfold counts; split
  · simp
  · exact between_all _ _
theorem sizes_all (oMin oMax bMin bMax r : Int) : 0 ≤ (sizes oMin oMax bMin bMax r).1 ∧ (sizes oMin oMax bMin bMax r).1 ≤ 4294967295 ∧ 0 ≤ (sizes oMin oMax bMin bMax r).2 ∧ (sizes oMin oMax bMin bMax r).2 ≤ 4294967295 ∧
    ((sizes oMin oMax bMin bMax r).2 < (sizes oMin oMax bMin bMax r).1 → (sizes oMin oMax bMin bMax r) = (1, 0)) := by
  unfold sizes; split
  · split
    · exact between_all _ _
    · simp
  · exact between_all _ _
theorem least_bd {iMax bMax r : Int} (h1 : 1 ≤ iMax) (h2 : 0 ≤ bMax) (h0 : 0 ≤ r) (h3 : r ≤ 1099511627776) : 0 ≤ least iMax bMax r ∧ least iMax bMax r ≤ 1099511627777 := by
  unfold least
  split
  · split
    · omega
    · have hq0 : 0 ≤ (r - bMax - 1) / iMax := Int.ediv_nonneg (by omega) (by omega)
      have hq1 : (r - bMax - 1) / iMax ≤ r - bMax - 1 := Int.ediv_le_self _ (by omega)
      omega
  · omega

theorem Counts_any (iMin iMax bMin bMax r : Int) (w : World) (hi : item iMin iMax) (hb : right bMin bMax) (h0 : 0 ≤ r) (h1 : r ≤ 1099511627776) :
    Calls Try.prog 38 #[.agg #[.int .i64 iMin, .int .i64 iMax], .agg #[.int .i64 bMin, .int .i64 bMax], .int .i64 r] w fun e w' =>
      e = .returned (.agg #[.int .u64 (counts iMin iMax bMin bMax r).1, .int .u64 (counts iMin iMax bMin bMax r).2]) ∧ New w w' := by
  obtain ⟨⟨i1, i2, i3, i4⟩, i5, i6, i7⟩ := hi
  obtain ⟨b1, b2, b3, b4⟩ := hb
  have HN := hid nothing_any
  have HE := hid endless_any
  have hl := least_bd (iMax := iMax) (bMax := bMax) (r := r) (by omega) (by omega) h0 h1
  by_cases hr : r < bMin
  · have HW : Hid (counts iMin iMax bMin bMax r = (1, 0)) := if_pos hr
    go_enter Try.func38, Try.ntmps38
    go_wp2_with (refine (HN.out _).mono ?_; rintro e w' ⟨rfl, rfl⟩)
    refine ret_agg rfl Try.underlying58 rfl (w.heap.size + 1 + 1) #[.int .u64 1, .int .u64 0] 58 (by kernel_rfl) rfl rfl ?_ ?_
    · repeat (first | (refine hp_new ?_; simp; done) | (refine hp_old ?_ ?_; · (simp <;> omega)))
    · rw [HW.out]
      exact ⟨rfl, by repeat (first | exact Upd.refl _ _ | apply Upd.alloc)⟩
  · obtain ⟨q, hq⟩ : ∃ q, (r - bMin) / iMin = q := ⟨_, rfl⟩
    have q0 : 0 ≤ q := by rw [← hq]; exact Int.ediv_nonneg (by omega) (by omega)
    have hm : (if iMin < 1 then (1 : Int) else iMin) = iMin := if_neg (by omega)
    obtain ⟨L, hL⟩ : ∃ L, least iMax bMax r = L := ⟨_, rfl⟩
    rw [hL] at hl
    have HW : Hid (counts iMin iMax bMin bMax r = between L q) := by show _ = _; unfold counts; rw [if_neg hr, hL, hq]
    have HB := hid (fun w => between_any L q w (by omega) (by omega))
    generalize (between L q) = c at *
    by_cases hs : bMax < 1099511627776 ∧ bMax < r
    · obtain ⟨s1, s2⟩ := hs
      have hd : decide ((1099511627776 : Int) ≤ bMax) = false := decide_eq_false (by omega)
      by_cases he : (1099511627776 : Int) ≤ iMax
      · have hd2 : decide ((1099511627776 : Int) ≤ iMax) = true := decide_eq_true he
        have hL1 : L = 1 := by rw [← hL]; unfold least; rw [if_pos ⟨s1, s2⟩, if_pos he]
        clear hL
        subst hL1
        go_enter Try.func38, Try.ntmps38
        go_wp2_with (first | (go_at_call 64; refine (HE.out _ _ _).mono ?_; rintro e w' ⟨rfl, rfl⟩) | (go_at_call 69; refine (HB.out _).mono ?_; rintro e w' ⟨rfl, rfl | rfl⟩) | (go_at_call 68; refine (HU.out _).mono ?_; rintro e w' ⟨rfl, rfl⟩))
        all_goals refine ret_agg rfl Try.underlying58 rfl (w.heap.size + 1 + 1) #[.int .u64 c.1, .int .u64 c.2] 58 (by kernel_rfl) rfl rfl ?_ ?_
        all_goals first
          | (rw [HW.out]; exact ⟨rfl, by repeat (first | exact Upd.refl _ _ | apply Upd.alloc)⟩)
          | (repeat (first | (refine hp_new ?_; simp; done) | (refine hp_old ?_ ?_; · (simp <;> omega))))
      · have hd2 : decide ((1099511627776 : Int) ≤ iMax) = false := decide_eq_false he
        have hL1 : (r - bMax - 1) / iMax + 1 = L := by rw [← hL]; unfold least; rw [if_pos ⟨s1, s2⟩, if_neg he]
        clear hL
        have HU := hid (fun w => up_any (r - bMax) iMax w (by omega) (by omega) (by omega) (by omega))
        rw [hL1] at HU
        go_enter Try.func38, Try.ntmps38
        go_wp2_with (first | (go_at_call 64; refine (HE.out _ _ _).mono ?_; rintro e w' ⟨rfl, rfl⟩) | (go_at_call 69; refine (HB.out _).mono ?_; rintro e w' ⟨rfl, rfl | rfl⟩) | (go_at_call 68; refine (HU.out _).mono ?_; rintro e w' ⟨rfl, rfl⟩))
        all_goals refine ret_agg rfl Try.underlying58 rfl (w.heap.size + 1 + 1) #[.int .u64 c.1, .int .u64 c.2] 58 (by kernel_rfl) rfl rfl ?_ ?_
        all_goals first
          | (rw [HW.out]; exact ⟨rfl, by repeat (first | exact Upd.refl _ _ | apply Upd.alloc)⟩)
          | (repeat (first | (refine hp_new ?_; simp; done) | (refine hp_old ?_ ?_; · (simp <;> omega))))
    · have hL1 : L = 0 := by rw [← hL]; unfold least; rw [if_neg hs]
      clear hL
      subst hL1
      by_cases he : (1099511627776 : Int) ≤ bMax
      · have hd : decide ((1099511627776 : Int) ≤ bMax) = true := decide_eq_true he
        go_enter Try.func38, Try.ntmps38
        go_wp2_with (first | (go_at_call 64; refine (HE.out _ _ _).mono ?_; rintro e w' ⟨rfl, rfl⟩) | (go_at_call 69; refine (HB.out _).mono ?_; rintro e w' ⟨rfl, rfl | rfl⟩) | (go_at_call 68; refine (HU.out _).mono ?_; rintro e w' ⟨rfl, rfl⟩))
        all_goals refine ret_agg rfl Try.underlying58 rfl (w.heap.size + 1 + 1) #[.int .u64 c.1, .int .u64 c.2] 58 (by kernel_rfl) rfl rfl ?_ ?_
        all_goals first
          | (rw [HW.out]; exact ⟨rfl, by repeat (first | exact Upd.refl _ _ | apply Upd.alloc)⟩)
          | (repeat (first | (refine hp_new ?_; simp; done) | (refine hp_old ?_ ?_; · (simp <;> omega))))
      · have hd : decide ((1099511627776 : Int) ≤ bMax) = false := decide_eq_false he
        have hd3 : ¬ bMax < r := fun h => hs ⟨by omega, h⟩
        clear hs
        go_enter Try.func38, Try.ntmps38
        go_wp2_with (first | (go_at_call 64; refine (HE.out _ _ _).mono ?_; rintro e w' ⟨rfl, rfl⟩) | (go_at_call 69; refine (HB.out _).mono ?_; rintro e w' ⟨rfl, rfl | rfl⟩) | (go_at_call 68; refine (HU.out _).mono ?_; rintro e w' ⟨rfl, rfl⟩))
        all_goals refine ret_agg rfl Try.underlying58 rfl (w.heap.size + 1 + 1) #[.int .u64 c.1, .int .u64 c.2] 58 (by kernel_rfl) rfl rfl ?_ ?_
        all_goals first
          | (rw [HW.out]; exact ⟨rfl, by repeat (first | exact Upd.refl _ _ | apply Upd.alloc)⟩)
          | (repeat (first | (refine hp_new ?_; simp; done) | (refine hp_old ?_ ?_; · (simp <;> omega))))

theorem Sizes_any (oMin oMax bMin bMax r : Int) (w : World) (ho : right oMin oMax) (hb : right bMin bMax) (h0 : 0 ≤ r) (h1 : r ≤ 1099511627776) :
    Calls Try.prog 41 #[.agg #[.int .i64 oMin, .int .i64 oMax], .agg #[.int .i64 bMin, .int .i64 bMax], .int .i64 r] w fun e w' =>
      e = .returned (.agg #[.int .u64 (sizes oMin oMax bMin bMax r).1, .int .u64 (sizes oMin oMax bMin bMax r).2]) ∧ New w w' := by
  obtain ⟨i1, i2, i3, i4⟩ := ho
  obtain ⟨b1, b2, b3, b4⟩ := hb
  have HN := hid nothing_any
  have HE := hid endless_any
  by_cases hr : (1099511627776 : Int) ≤ r
  · by_cases hm : (1099511627776 : Int) ≤ bMax
    · have hd : decide ((1099511627776 : Int) ≤ bMax) = true := decide_eq_true hm
      have HW : Hid (sizes oMin oMax bMin bMax r = between oMin oMax) := by show _ = _; unfold sizes; rw [if_pos hr, if_pos hm]
      have HB := hid (fun w => between_any oMin oMax w (by omega) (by omega))
      generalize (between oMin oMax) = c at *
      go_enter Try.func41, Try.ntmps41
      go_wp2_with (first | (go_at_call 64; refine (HE.out _ _ _).mono ?_; rintro e w' ⟨rfl, rfl⟩) | (go_at_call 69; refine (HB.out _).mono ?_; rintro e w' ⟨rfl, rfl | rfl⟩) | (go_at_call 68; refine (HU.out _).mono ?_; rintro e w' ⟨rfl, rfl⟩))
      all_goals refine ret_agg rfl Try.underlying58 rfl (w.heap.size + 1 + 1) #[.int .u64 c.1, .int .u64 c.2] 58 (by kernel_rfl) rfl rfl ?_ ?_
      all_goals first
        | (rw [HW.out]; exact ⟨rfl, by repeat (first | exact Upd.refl _ _ | apply Upd.alloc)⟩)
        | (repeat (first | (refine hp_new ?_; simp; done) | (refine hp_old ?_ ?_; · (simp <;> omega))))
    · have hd : decide ((1099511627776 : Int) ≤ bMax) = false := decide_eq_false hm
      have HW : Hid (sizes oMin oMax bMin bMax r = (1, 0)) := by show _ = _; unfold sizes; rw [if_pos hr, if_neg hm]
      go_enter Try.func41, Try.ntmps41
      go_wp2_with (first | (go_at_call 64; refine (HE.out _ _ _).mono ?_; rintro e w' ⟨rfl, rfl⟩) | (refine (HN.out _).mono ?_; rintro e w' ⟨rfl, rfl⟩))
      refine ret_agg rfl Try.underlying58 rfl (w.heap.size + 1 + 1) #[.int .u64 1, .int .u64 0] 58 (by kernel_rfl) rfl rfl ?_ ?_
      · repeat (first | (refine hp_new ?_; simp; done) | (refine hp_old ?_ ?_; · (simp <;> omega)))
      · rw [HW.out]
        exact ⟨rfl, by repeat (first | exact Upd.refl _ _ | apply Upd.alloc)⟩
  · obtain ⟨H, hH⟩ : ∃ H, min oMax (r - bMin) = H := ⟨_, rfl⟩
    have hH' : (if r - bMin < oMax then r - bMin else oMax) = H := by split <;> omega
    by_cases hm : (1099511627776 : Int) ≤ bMax
    · have hd : decide ((1099511627776 : Int) ≤ bMax) = true := decide_eq_true hm
      have HW : Hid (sizes oMin oMax bMin bMax r = between oMin H) := by show _ = _; unfold sizes; rw [if_neg hr, if_pos hm, hH]
      have HB := hid (fun w => between_any oMin H w (by omega) (by omega))
      generalize (between oMin H) = c at *
      go_enter Try.func41, Try.ntmps41
      go_wp2_with (first | (go_at_call 64; refine (HE.out _ _ _).mono ?_; rintro e w' ⟨rfl, rfl⟩) | (go_at_call 69; refine (HB.out _).mono ?_; rintro e w' ⟨rfl, rfl | rfl⟩) | (go_at_call 68; refine (HU.out _).mono ?_; rintro e w' ⟨rfl, rfl⟩))
      all_goals refine ret_agg rfl Try.underlying58 rfl (w.heap.size + 1 + 1) #[.int .u64 c.1, .int .u64 c.2] 58 (by kernel_rfl) rfl rfl ?_ ?_
      all_goals first
        | (rw [HW.out]; exact ⟨rfl, by repeat (first | exact Upd.refl _ _ | apply Upd.alloc)⟩)
        | (repeat (first | (refine hp_new ?_; simp; done) | (refine hp_old ?_ ?_; · (simp <;> omega))))
    · have hd : decide ((1099511627776 : Int) ≤ bMax) = false := decide_eq_false hm
      obtain ⟨L, hL⟩ : ∃ L, max oMin (r - bMax) = L := ⟨_, rfl⟩
      have hL' : (if oMin < r - bMax then r - bMax else oMin) = L := by split <;> omega
      have HW : Hid (sizes oMin oMax bMin bMax r = between L H) := by show _ = _; unfold sizes; rw [if_neg hr, if_neg hm, hH, hL]
      have HB := hid (fun w => between_any L H w (by omega) (by omega))
      generalize (between L H) = c at *
      go_enter Try.func41, Try.ntmps41
      go_wp2_with (first | (go_at_call 64; refine (HE.out _ _ _).mono ?_; rintro e w' ⟨rfl, rfl⟩) | (go_at_call 69; refine (HB.out _).mono ?_; rintro e w' ⟨rfl, rfl | rfl⟩) | (go_at_call 68; refine (HU.out _).mono ?_; rintro e w' ⟨rfl, rfl⟩))
      all_goals refine ret_agg rfl Try.underlying58 rfl (w.heap.size + 1 + 1) #[.int .u64 c.1, .int .u64 c.2] 58 (by kernel_rfl) rfl rfl ?_ ?_
      all_goals first
        | (rw [HW.out]; exact ⟨rfl, by repeat (first | exact Upd.refl _ _ | apply Upd.alloc)⟩)
        | (repeat (first | (refine hp_new ?_; simp; done) | (refine hp_old ?_ ?_; · (simp <;> omega))))
end Go.Proofs.Ytlmimlnflcfccaa
