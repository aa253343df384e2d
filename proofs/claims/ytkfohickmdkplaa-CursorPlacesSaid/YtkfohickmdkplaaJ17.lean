/-
  The walks of spans: which counts, which numbers.
-/
import Derived.Test.YtkfohickmdkplaaJ11
namespace Go.Proofs.Ytkfohickmdkplaa
open Go.RowKit Go.Proofs.Own Go.Proofs.Span
set_option maxRecDepth 100000
set_option maxHeartbeats 2000000

theorem nothing_any (w : World) :
    Calls Try.prog 68 #[] w fun e w' => e = .returned (.agg #[.int .u64 1, .int .u64 0]) ∧ w.alloc (.cells #[.int .u64 1, .int .u64 0] 87) = w' := by
  go_enter Try.func68, Try.ntmps68
  go_wp2_with fail
  refine ret_agg rfl Try.underlying87 rfl w.heap.size #[.int .u64 1, .int .u64 0] 87 (by kernel_rfl) rfl rfl ?_ ?_
  · repeat (first | (refine hp_new ?_; simp; done) | (refine hp_old ?_ ?_; · (simp <;> omega)))
  · exact ⟨rfl, rfl⟩

theorem up_any (a b : Int) (w : World) (h1 : 1 ≤ a) (h2 : a ≤ 1000000000000000) (h3 : 1 ≤ b) (h4 : b ≤ 1000000000000000) :
    Calls Try.prog 70 #[.int .i64 a, .int .i64 b] w fun e w' => e = .returned (.int .i64 ((a - 1) / b + 1)) ∧ w = w' := by
  have hb : max b 1 = b := by omega
  have hq0 : 0 ≤ (a - 1) / b := Int.ediv_nonneg (by omega) (by omega)
  have hq1 : (a - 1) / b ≤ a - 1 := Int.ediv_le_self _ (by omega)
  go_enter Try.func70, Try.ntmps70
  go_wp2_with fail
  go_ret
  exact ⟨rfl, rfl⟩

theorem within_any (n h : Int) (w : World) :
    Calls Try.prog 66 #[.int .i64 n, .int .i64 h] w fun e w' => e = .returned (.int .i64 (min (max n 0) h)) ∧ w = w' := by
  obtain ⟨a, ha⟩ : ∃ a, max n 0 = a := ⟨_, rfl⟩
  obtain ⟨b, hb⟩ : ∃ b, min a h = b := ⟨_, rfl⟩
  have HW : Hid (min (max n 0) h = b) := by show _ = _; rw [ha, hb]
  have ha' : (if n < 0 then (0 : Int) else n) = a := by split <;> omega
  have hb' : (if h < a then h else a) = b := by split <;> omega
  go_enter Try.func66, Try.ntmps66
  go_wp2_with fail
  go_ret
  exact ⟨by rw [HW.out]; rfl, rfl⟩

theorem between_any (lo hi : Int) (w : World) (h1 : lo ≤ 9223372036854775807) (h2 : -9223372036854775808 ≤ hi) :
    Calls Try.prog 71 #[.int .i64 lo, .int .i64 hi] w fun e w' =>
      e = .returned (.agg #[.int .u64 (between lo hi).1, .int .u64 (between lo hi).2]) ∧
        (w.alloc (.cells #[.int .u64 (between lo hi).1, .int .u64 (between lo hi).2] 87) = w' ∨
         (w.alloc (.cells #[.int .u64 1, .int .u64 0] 87)).alloc (.cells #[.int .u64 1, .int .u64 0] 87) = w') := by
  obtain ⟨a, ha⟩ : ∃ a, max lo 0 = a := ⟨_, rfl⟩
  obtain ⟨b, hb⟩ : ∃ b, min hi 4294967295 = b := ⟨_, rfl⟩
  have a0 : 0 ≤ a := by omega
  have a1 : a ≤ 9223372036854775807 := by omega
  have b1 : b ≤ 4294967295 := by omega
  have ha' : (if lo < 0 then (0 : Int) else lo) = a := by split <;> omega
  have hb' : (if 4294967295 < hi then (4294967295 : Int) else hi) = b := by split <;> omega
  have HE := hid nothing_any
  by_cases hc : b < a
  · have HW : Hid (between lo hi = (1, 0)) := by show _ = _; unfold between; rw [if_pos (by omega)]
    go_enter Try.func71, Try.ntmps71
    go_wp2_with (refine (HE.out _).mono ?_; rintro e w' ⟨rfl, rfl⟩)
    refine ret_agg rfl Try.underlying87 rfl w.heap.size #[.int .u64 1, .int .u64 0] 87 (by kernel_rfl) rfl rfl ?_ ?_
    · repeat (first | (refine hp_new ?_; simp; done) | (refine hp_old ?_ ?_; · (simp <;> omega)))
    · rw [HW.out]
      exact ⟨rfl, .inr rfl⟩
  · have HW : Hid (between lo hi = (a, b)) := by show _ = _; unfold between; rw [if_neg (by omega), ha, hb]
    go_enter Try.func71, Try.ntmps71
    go_wp2_with fail
    refine ret_agg rfl Try.underlying87 rfl w.heap.size #[.int .u64 a, .int .u64 b] 87 (by kernel_rfl) rfl rfl ?_ ?_
    · repeat (first | (refine hp_new ?_; simp; done) | (refine hp_old ?_ ?_; · (simp <;> omega)))
    · rw [HW.out]
      exact ⟨rfl, .inl rfl⟩

theorem between_all (lo hi : Int) : 0 ≤ (between lo hi).1 ∧ (between lo hi).1 ≤ 4294967295 ∧ 0 ≤ (between lo hi).2 ∧ (between lo hi).2 ≤ 4294967295 ∧
    ((between lo hi).2 < (between lo hi).1 → (between lo hi) = (1, 0)) := by
  unfold between; split
  · simp
  · simp only; refine ⟨by omega, by omega, by omega, by omega, by omega⟩
theorem counts_all (iMin iMax bMin bMax r : Int) : 0 ≤ (counts iMin iMax bMin bMax r).1 ∧ (counts iMin iMax bMin bMax r).1 ≤ 4294967295 ∧ 0 ≤ (counts iMin iMax bMin bMax r).2 ∧ (counts iMin iMax bMin bMax r).2 ≤ 4294967295 ∧
    ((counts iMin iMax bMin bMax r).2 < (counts iMin iMax bMin bMax r).1 → (counts iMin iMax bMin bMax r) = (1, 0)) := by
  unfold counts; split
  · simp
  · exact between_all _ _
theorem sizes_all (oMin oMax bMin bMax r : Int) : 0 ≤ (sizes oMin oMax bMin bMax r).1 ∧ (sizes oMin oMax bMin bMax r).1 ≤ 4294967295 ∧ 0 ≤ (sizes oMin oMax bMin bMax r).2 ∧ (sizes oMin oMax bMin bMax r).2 ≤ 4294967295 ∧
    ((sizes oMin oMax bMin bMax r).2 < (sizes oMin oMax bMin bMax r).1 → (sizes oMin oMax bMin bMax r) = (1, 0)) := by
  unfold sizes; split
  · split
    · exact between_all _ _
    · simp
  · exact between_all _ _
theorem least_bd {iMax bMax r : Int} (h1 : 1 ≤ iMax) (h2 : 0 ≤ bMax) (h0 : 0 ≤ r) (h3 : r ≤ 1099511627776) : 0 ≤ least iMax bMax r ∧ least iMax bMax r ≤ 1099511627777 := by
  unfold least
  split
  · split
    · omega
    · have hq0 : 0 ≤ (r - bMax - 1) / iMax := Int.ediv_nonneg (by omega) (by omega)
      have hq1 : (r - bMax - 1) / iMax ≤ r - bMax - 1 := Int.ediv_le_self _ (by omega)
      omega
  · omega

theorem Counts_any (iMin iMax bMin bMax r : Int) (w : World) (hi : item iMin iMax) (hb : right bMin bMax) (h0 : 0 ≤ r) (h1 : r ≤ 1099511627776) :
    Calls Try.prog 51 #[.agg #[.int .i64 iMin, .int .i64 iMax], .agg #[.int .i64 bMin, .int .i64 bMax], .int .i64 r] w fun e w' =>
      e = .returned (.agg #[.int .u64 (counts iMin iMax bMin bMax r).1, .int .u64 (counts iMin iMax bMin bMax r).2]) ∧ New w w' := by
  obtain ⟨⟨i1, i2, i3, i4⟩, i5, i6, i7⟩ := hi
  obtain ⟨b1, b2, b3, b4⟩ := hb
  have HN := hid nothing_any
  have HE := hid endless_any
  have hl := least_bd (iMax := iMax) (bMax := bMax) (r := r) (by omega) (by omega) h0 h1
  by_cases hr : r < bMin
  · have HW : Hid (counts iMin iMax bMin bMax r = (1, 0)) := if_pos hr
    go_enter Try.func51, Try.ntmps51
    go_wp2_with (refine (HN.out _).mono ?_; rintro e w' ⟨rfl, rfl⟩)
    refine ret_agg rfl Try.underlying87 rfl (w.heap.size + 1 + 1) #[.int .u64 1, .int .u64 0] 87 (by kernel_rfl) rfl rfl ?_ ?_
    · repeat (first | (refine hp_new ?_; simp; done) | (refine hp_old ?_ ?_; · (simp <;> omega)))
    · rw [HW.out]
      exact ⟨rfl, by repeat (first | exact Upd.refl _ _ | apply Upd.alloc)⟩
  · obtain ⟨q, hq⟩ : ∃ q, (r - bMin) / iMin = q := ⟨_, rfl⟩
    have q0 : 0 ≤ q := by rw [← hq]; exact Int.ediv_nonneg (by omega) (by omega)
    have hm : (if iMin < 1 then (1 : Int) else iMin) = iMin := if_neg (by omega)
    obtain ⟨L, hL⟩ : ∃ L, least iMax bMax r = L := ⟨_, rfl⟩
    rw [hL] at hl
    have HW : Hid (counts iMin iMax bMin bMax r = between L q) := by show _ = _; unfold counts; rw [if_neg hr, hL, hq]
    have HB := hid (fun w => between_any L q w (by omega) (by omega))
    generalize (between L q) = c at *
    by_cases hs : bMax < 1099511627776 ∧ bMax < r
    · obtain ⟨s1, s2⟩ := hs
      have hd : decide ((1099511627776 : Int) ≤ bMax) = false := decide_eq_false (by omega)
      by_cases he : (1099511627776 : Int) ≤ iMax
      · have hd2 : decide ((1099511627776 : Int) ≤ iMax) = true := decide_eq_true he
        have hL1 : L = 1 := by rw [← hL]; unfold least; rw [if_pos ⟨s1, s2⟩, if_pos he]
        clear hL
        subst hL1
        go_enter Try.func51, Try.ntmps51
        go_wp2_with (first | (go_at_call 69; refine (HE.out _ _ _).mono ?_; rintro e w' ⟨rfl, rfl⟩) | (go_at_call 71; refine (HB.out _).mono ?_; rintro e w' ⟨rfl, rfl | rfl⟩) | (go_at_call 70; refine (HU.out _).mono ?_; rintro e w' ⟨rfl, rfl⟩))
        all_goals refine ret_agg rfl Try.underlying87 rfl (w.heap.size + 1 + 1) #[.int .u64 c.1, .int .u64 c.2] 87 (by kernel_rfl) rfl rfl ?_ ?_
        all_goals first
          | (rw [HW.out]; exact ⟨rfl, by repeat (first | exact Upd.refl _ _ | apply Upd.alloc)⟩)
          | (repeat (first | (refine hp_new ?_; simp; done) | (refine hp_old ?_ ?_; · (simp <;> omega))))
      · have hd2 : decide ((1099511627776 : Int) ≤ iMax) = false := decide_eq_false he
        have hL1 : (r - bMax - 1) / iMax + 1 = L := by rw [← hL]; unfold least; rw [if_pos ⟨s1, s2⟩, if_neg he]
        clear hL
        have HU := hid (fun w => up_any (r - bMax) iMax w (by omega) (by omega) (by omega) (by omega))
        rw [hL1] at HU
        go_enter Try.func51, Try.ntmps51
        go_wp2_with (first | (go_at_call 69; refine (HE.out _ _ _).mono ?_; rintro e w' ⟨rfl, rfl⟩) | (go_at_call 71; refine (HB.out _).mono ?_; rintro e w' ⟨rfl, rfl | rfl⟩) | (go_at_call 70; refine (HU.out _).mono ?_; rintro e w' ⟨rfl, rfl⟩))
        all_goals refine ret_agg rfl Try.underlying87 rfl (w.heap.size + 1 + 1) #[.int .u64 c.1, .int .u64 c.2] 87 (by kernel_rfl) rfl rfl ?_ ?_
        all_goals first
          | (rw [HW.out]; exact ⟨rfl, by repeat (first | exact Upd.refl _ _ | apply Upd.alloc)⟩)
          | (repeat (first | (refine hp_new ?_; simp; done) | (refine hp_old ?_ ?_; · (simp <;> omega))))
    · have hL1 : L = 0 := by rw [← hL]; unfold least; rw [if_neg hs]
      clear hL
      subst hL1
      by_cases he : (1099511627776 : Int) ≤ bMax
      · have hd : decide ((1099511627776 : Int) ≤ bMax) = true := decide_eq_true he
        go_enter Try.func51, Try.ntmps51
        go_wp2_with (first | (go_at_call 69; refine (HE.out _ _ _).mono ?_; rintro e w' ⟨rfl, rfl⟩) | (go_at_call 71; refine (HB.out _).mono ?_; rintro e w' ⟨rfl, rfl | rfl⟩) | (go_at_call 70; refine (HU.out _).mono ?_; rintro e w' ⟨rfl, rfl⟩))
        all_goals refine ret_agg rfl Try.underlying87 rfl (w.heap.size + 1 + 1) #[.int .u64 c.1, .int .u64 c.2] 87 (by kernel_rfl) rfl rfl ?_ ?_
        all_goals first
          | (rw [HW.out]; exact ⟨rfl, by repeat (first | exact Upd.refl _ _ | apply Upd.alloc)⟩)
          | (repeat (first | (refine hp_new ?_; simp; done) | (refine hp_old ?_ ?_; · (simp <;> omega))))
      · have hd : decide ((1099511627776 : Int) ≤ bMax) = false := decide_eq_false he
        have hd3 : ¬ bMax < r := fun h => hs ⟨by omega, h⟩
        clear hs
        go_enter Try.func51, Try.ntmps51
        go_wp2_with (first | (go_at_call 69; refine (HE.out _ _ _).mono ?_; rintro e w' ⟨rfl, rfl⟩) | (go_at_call 71; refine (HB.out _).mono ?_; rintro e w' ⟨rfl, rfl | rfl⟩) | (go_at_call 70; refine (HU.out _).mono ?_; rintro e w' ⟨rfl, rfl⟩))
        all_goals refine ret_agg rfl Try.underlying87 rfl (w.heap.size + 1 + 1) #[.int .u64 c.1, .int .u64 c.2] 87 (by kernel_rfl) rfl rfl ?_ ?_
        all_goals first
          | (rw [HW.out]; exact ⟨rfl, by repeat (first | exact Upd.refl _ _ | apply Upd.alloc)⟩)
          | (repeat (first | (refine hp_new ?_; simp; done) | (refine hp_old ?_ ?_; · (simp <;> omega))))

theorem Sizes_any (oMin oMax bMin bMax r : Int) (w : World) (ho : right oMin oMax) (hb : right bMin bMax) (h0 : 0 ≤ r) (h1 : r ≤ 1099511627776) :
    Calls Try.prog 52 #[.agg #[.int .i64 oMin, .int .i64 oMax], .agg #[.int .i64 bMin, .int .i64 bMax], .int .i64 r] w fun e w' =>
      e = .returned (.agg #[.int .u64 (sizes oMin oMax bMin bMax r).1, .int .u64 (sizes oMin oMax bMin bMax r).2]) ∧ New w w' := by
  obtain ⟨i1, i2, i3, i4⟩ := ho
  obtain ⟨b1, b2, b3, b4⟩ := hb
  have HN := hid nothing_any
  have HE := hid endless_any
  by_cases hr : (1099511627776 : Int) ≤ r
  · by_cases hm : (1099511627776 : Int) ≤ bMax
    · have hd : decide ((1099511627776 : Int) ≤ bMax) = true := decide_eq_true hm
      have HW : Hid (sizes oMin oMax bMin bMax r = between oMin oMax) := by show _ = _; unfold sizes; rw [if_pos hr, if_pos hm]
      have HB := hid (fun w => between_any oMin oMax w (by omega) (by omega))
      generalize (between oMin oMax) = c at *
      go_enter Try.func52, Try.ntmps52
      go_wp2_with (first | (go_at_call 69; refine (HE.out _ _ _).mono ?_; rintro e w' ⟨rfl, rfl⟩) | (go_at_call 71; refine (HB.out _).mono ?_; rintro e w' ⟨rfl, rfl | rfl⟩) | (go_at_call 70; refine (HU.out _).mono ?_; rintro e w' ⟨rfl, rfl⟩))
      all_goals refine ret_agg rfl Try.underlying87 rfl (w.heap.size + 1 + 1) #[.int .u64 c.1, .int .u64 c.2] 87 (by kernel_rfl) rfl rfl ?_ ?_
      all_goals first
        | (rw [HW.out]; exact ⟨rfl, by repeat (first | exact Upd.refl _ _ | apply Upd.alloc)⟩)
        | (repeat (first | (refine hp_new ?_; simp; done) | (refine hp_old ?_ ?_; · (simp <;> omega))))
    · have hd : decide ((1099511627776 : Int) ≤ bMax) = false := decide_eq_false hm
      have HW : Hid (sizes oMin oMax bMin bMax r = (1, 0)) := by show _ = _; unfold sizes; rw [if_pos hr, if_neg hm]
      go_enter Try.func52, Try.ntmps52
      go_wp2_with (first | (go_at_call 69; refine (HE.out _ _ _).mono ?_; rintro e w' ⟨rfl, rfl⟩) | (refine (HN.out _).mono ?_; rintro e w' ⟨rfl, rfl⟩))
      refine ret_agg rfl Try.underlying87 rfl (w.heap.size + 1 + 1) #[.int .u64 1, .int .u64 0] 87 (by kernel_rfl) rfl rfl ?_ ?_
      · repeat (first | (refine hp_new ?_; simp; done) | (refine hp_old ?_ ?_; · (simp <;> omega)))
      · rw [HW.out]
        exact ⟨rfl, by repeat (first | exact Upd.refl _ _ | apply Upd.alloc)⟩
  · obtain ⟨H, hH⟩ : ∃ H, min oMax (r - bMin) = H := ⟨_, rfl⟩
    have hH' : (if r - bMin < oMax then r - bMin else oMax) = H := by split <;> omega
    by_cases hm : (1099511627776 : Int) ≤ bMax
    · have hd : decide ((1099511627776 : Int) ≤ bMax) = true := decide_eq_true hm
      have HW : Hid (sizes oMin oMax bMin bMax r = between oMin H) := by show _ = _; unfold sizes; rw [if_neg hr, if_pos hm, hH]
      have HB := hid (fun w => between_any oMin H w (by omega) (by omega))
      generalize (between oMin H) = c at *
      go_enter Try.func52, Try.ntmps52
      go_wp2_with (first | (go_at_call 69; refine (HE.out _ _ _).mono ?_; rintro e w' ⟨rfl, rfl⟩) | (go_at_call 71; refine (HB.out _).mono ?_; rintro e w' ⟨rfl, rfl | rfl⟩) | (go_at_call 70; refine (HU.out _).mono ?_; rintro e w' ⟨rfl, rfl⟩))
      all_goals refine ret_agg rfl Try.underlying87 rfl (w.heap.size + 1 + 1) #[.int .u64 c.1, .int .u64 c.2] 87 (by kernel_rfl) rfl rfl ?_ ?_
      all_goals first
        | (rw [HW.out]; exact ⟨rfl, by repeat (first | exact Upd.refl _ _ | apply Upd.alloc)⟩)
        | (repeat (first | (refine hp_new ?_; simp; done) | (refine hp_old ?_ ?_; · (simp <;> omega))))
    · have hd : decide ((1099511627776 : Int) ≤ bMax) = false := decide_eq_false hm
      obtain ⟨L, hL⟩ : ∃ L, max oMin (r - bMax) = L := ⟨_, rfl⟩
      have hL' : (if oMin < r - bMax then r - bMax else oMin) = L := by split <;> omega
      have HW : Hid (sizes oMin oMax bMin bMax r = between L H) := by show _ = _; unfold sizes; rw [if_neg hr, if_neg hm, hH, hL]
      have HB := hid (fun w => between_any L H w (by omega) (by omega))
      generalize (between L H) = c at *
      go_enter Try.func52, Try.ntmps52
      go_wp2_with (first | (go_at_call 69; refine (HE.out _ _ _).mono ?_; rintro e w' ⟨rfl, rfl⟩) | (go_at_call 71; refine (HB.out _).mono ?_; rintro e w' ⟨rfl, rfl | rfl⟩) | (go_at_call 70; refine (HU.out _).mono ?_; rintro e w' ⟨rfl, rfl⟩))
      all_goals refine ret_agg rfl Try.underlying87 rfl (w.heap.size + 1 + 1) #[.int .u64 c.1, .int .u64 c.2] 87 (by kernel_rfl) rfl rfl ?_ ?_
      all_goals first
        | (rw [HW.out]; exact ⟨rfl, by repeat (first | exact Upd.refl _ _ | apply Upd.alloc)⟩)
        | (repeat (first | (refine hp_new ?_; simp; done) | (refine hp_old ?_ ?_; · (simp <;> omega))))
end Go.Proofs.Ytkfohickmdkplaa

namespace Go.Proofs.Ytkfohickmdkplaa
open Go.RowKit Go.Proofs.Own Go.Proofs.Span
set_option maxRecDepth 100000
set_option maxHeartbeats 2000000

/-- a slice of ranges that can be read -/
def RdP (w : World) (v : Value) (rs : List (Nat × Nat)) : Prop :=
  ∃ a cap, v = .slice a rs.length cap ∧ rs.length ≤ cap ∧ (a = none → cap = 0) ∧ (rs ≠ [] → ∃ b o, a = some ⟨b, o, none⟩ ∧
    ∀ i (h : i < rs.length), w.cell? ⟨b, o + i * 2, none⟩ = some (.int .u64 rs[i].1) ∧ w.cell? ⟨b, o + i * 2 + 1, none⟩ = some (.int .u64 rs[i].2))
theorem RdP.new {w w' : World} {v : Value} {rs : List (Nat × Nat)} (h : RdP w v rs) (hn : New w w') : RdP w' v rs := by
  obtain ⟨a, cap, rfl, h1, h2, h3⟩ := h
  refine ⟨a, cap, rfl, h1, h2, fun hne => ?_⟩
  obtain ⟨b, o, rfl, hc⟩ := h3 hne
  exact ⟨b, o, rfl, fun i hi => ⟨hn.cell (hc i hi).1 (fun h => h), hn.cell (hc i hi).2 (fun h => h)⟩⟩

theorem within_nat (n h : Nat) (w : World) (hn : n ≤ h) :
    Calls Try.prog 66 #[.int .i64 n, .int .i64 h] w fun e w' => e = .returned (.int .i64 n) ∧ w = w' := by
  have hc := within_any n h w
  rw [show min (max (n : Int) 0) h = n by omega] at hc
  exact hc

/-- 'look', its powers named -/
def lookN (lo hi low S R T : Nat) : Bool :=
  decide (lo ≤ min hi T) && decide (low ≤ min hi T) && (decide ((if low < lo then (lo - low - 1) / S + 1 else 0) < R) && decide (low + (if low < lo then (lo - low - 1) / S + 1 else 0) * S ≤ min hi T))

theorem Fits_any (v : Value) (rs : List (Nat × Nat)) (low s l b : Nat) (w : World) (hr : RdP w v rs) (hlen : rs.length ≤ 1000000) (hs : s ≤ 63) (hl : l ≤ 9) (hb : b ≤ 63) (hlow : low < 2 ^ s)
    (hrs : ∀ i (h : i < rs.length), rs[i].1 < 18446744073709551616 ∧ rs[i].2 < 18446744073709551616) :
    Calls Try.prog 48 #[v, .int .u64 low, .int .i64 s, .int .i64 l, .int .i64 b] w fun e w' => e = .returned (.bool (rs.any fun x => Span.look x.1 x.2 low s l b)) ∧ New w w' := by
  obtain ⟨S, hS⟩ : ∃ S, 2 ^ s = S := ⟨_, rfl⟩
  obtain ⟨R, hR⟩ : ∃ R, 2 ^ (7 * l) = R := ⟨_, rfl⟩
  obtain ⟨T, hT⟩ : ∃ T, 2 ^ b = T + 1 := ⟨2 ^ b - 1, by have : 0 < 2 ^ b := Nat.pow_pos (by decide); omega⟩
  have p63 : (2 : Nat) ^ 63 = 9223372036854775808 := by decide
  have S1 : S ≤ 9223372036854775808 := by rw [← hS, ← p63]; exact Nat.pow_le_pow_right (by decide) hs
  have S0 : 0 < S := by rw [← hS]; exact Nat.pow_pos (by decide)
  have R00 : 0 < R := by rw [← hR]; exact Nat.pow_pos (by decide)
  have R1 : R ≤ 9223372036854775808 := by rw [← hR, ← p63]; exact Nat.pow_le_pow_right (by decide) (by omega)
  have T1 : T < 9223372036854775808 := by have : (2 : Nat) ^ b ≤ 2 ^ 63 := Nat.pow_le_pow_right (by decide) hb; omega
  have i1 : (2 : Int) ^ s = S := by rw [← hS]; simp
  have i2 : (2 : Int) ^ (7 * l) = R := by rw [← hR]; simp
  have i3 : (2 : Int) ^ b = T + 1 := by have := congrArg (fun t : Nat => (t : Int)) hT; simpa using this
  have HL : Hid (∀ lo hi, Span.look lo hi low s l b = lookN lo hi low S R T) := by
    intro lo hi
    unfold Span.look lookN
    rw [hS, hR, hT, Nat.add_sub_cancel]
  have HNO : Hid ((∀ j (hj : j < rs.length), lookN rs[j].1 rs[j].2 low S R T = false) → (rs.any fun x => Span.look x.1 x.2 low s l b) = false) := by
    intro h
    rw [List.any_eq_false]
    intro x hx
    obtain ⟨j, hj, rfl⟩ := List.mem_iff_getElem.mp hx
    rw [HL.out, h j hj]
    simp
  rw [hS] at hlow
  clear p63 hS hR hT
  have HR := hid hr
  obtain ⟨a, cap, rfl, hcap, hnil, hcell⟩ := hr
  have HI1 := hid (within_nat s 63 · hs)
  have HI2 := hid (within_nat l 9 · hl)
  have HI3 := hid (within_nat b 63 · hb)
  have HA := hid hcell
  clear hcell
  go_enter Try.func48, Try.ntmps48
  go_wp2_with fail
  go_step3
  go_wp2_with fail
  refine (HI1.out _).mono ?_
  rintro e w' ⟨rfl, rfl⟩
  go_wp2_with fail
  refine (HI2.out _).mono ?_
  rintro e w' ⟨rfl, rfl⟩
  go_wp2_with fail
  refine (HI3.out _).mono ?_
  rintro e w' ⟨rfl, rfl⟩
  go_wp2_with fail
  rw [i2]
  go_step3
  go_wp2_with fail
  go_loopg [31] rs.length (fun k p wr => ∃ i : Nat, k = rs.length - i ∧ p = .int .i64 i ∧ i ≤ rs.length ∧ New w wr ∧ ∀ j (_ : j < i) (hj : j < rs.length), lookN rs[j].1 rs[j].2 low S R T = false)
  case atStart => exact ⟨0, by simp, rfl, Nat.zero_le _, Upd.refl _ _, fun j h => absurd h (Nat.not_lt_zero _)⟩
  case round =>
    obtain ⟨i, rfl, rfl, hi, hw, hbefore⟩ := hrel
    have HBF := hid hbefore
    have HW := hid hw
    clear hbefore hw
    by_cases hlt : i < rs.length
    · obtain ⟨bl, of, rfl, hcell⟩ := HA.out (by intro h; subst h; simp at hlt)
      have hc0 := HW.out.cell (hcell i hlt).1 (fun h => h)
      have hc1 := HW.out.cell (hcell i hlt).2 (fun h => h)
      have hbd := hrs i hlt
      have HX := hid (fun (h : lookN rs[i].1 rs[i].2 low S R T = false) => (show ∀ j (_ : j < i + 1) (hj : j < rs.length), lookN rs[j].1 rs[j].2 low S R T = false from fun j h1 h2 => by
        rcases Nat.lt_or_ge j i with h3 | h3
        · exact HBF.out j h3 h2
        · have : j = i := by omega
          subst this
          exact h))
      have HY := hid (fun (h : lookN rs[i].1 rs[i].2 low S R T = true) => (show (rs.any fun x => Span.look x.1 x.2 low s l b) = true from List.any_eq_true.mpr ⟨rs[i], List.getElem_mem _, by rw [HL.out]; exact h⟩))
      clear hcell
      generalize hlo : rs[i].1 = lo at *
      generalize hhi : rs[i].2 = hi' at *
      clear hlo hhi
      obtain ⟨H, hH⟩ : ∃ H, min hi' T = H := ⟨_, rfl⟩
      have H1 : (if T < hi' then (T : Int) else (hi' : Int)) = H := by split <;> omega
      have H2 : H ≤ T := by omega
      have HH := hid hH
      clear hH
      by_cases ca : H < lo
      · have hv : Hid (lookN lo hi' low S R T = false) := by show _ = _; unfold lookN; rw [HH.out, decide_eq_false (by omega : ¬ lo ≤ H)]; rfl
        go_wp2_with fail
        go_roundg (rs.length - (i + 1))
        case measure => omega
        case rel => exact ⟨i + 1, rfl, by go_num, by omega, HW.out.alloc _, HX.out hv.out⟩
      · by_cases cb : H < low
        · have hv : Hid (lookN lo hi' low S R T = false) := by show _ = _; unfold lookN; rw [HH.out, decide_eq_false (by omega : ¬ low ≤ H), Bool.and_false]; rfl
          go_wp2_with fail
          go_roundg (rs.length - (i + 1))
          case measure => omega
          case rel => exact ⟨i + 1, rfl, by go_num, by omega, HW.out.alloc _, HX.out hv.out⟩
        · have hv0 : lookN lo hi' low S R T = (decide ((if low < lo then (lo - low - 1) / S + 1 else 0) < R) && decide (low + (if low < lo then (lo - low - 1) / S + 1 else 0) * S ≤ H)) := by
            unfold lookN; rw [HH.out, decide_eq_true (by omega : lo ≤ H), decide_eq_true (by omega : low ≤ H)]; rfl
          by_cases cc : low < lo
          · rw [if_pos cc] at hv0
            obtain ⟨q, hq⟩ : ∃ q, (lo - low - 1) / S = q := ⟨_, rfl⟩
            have q1 : ((lo : Int) - low - 1) / S = q := by rw [← hq, Int.natCast_ediv]; congr 1; omega
            have q2 : q ≤ lo - low - 1 := by rw [← hq]; exact Nat.div_le_self _ _
            have q3 : q * S ≤ lo - low - 1 := by rw [← hq]; exact Nat.div_mul_le_self _ _
            rw [hq] at hv0
            obtain ⟨m, hm⟩ : ∃ m, (q + 1) * S = m := ⟨_, rfl⟩
            have m1 : ((q : Int) + 1) * S = m := by rw [← hm]; simp
            have m2 : m ≤ lo - low - 1 + S := by rw [← hm, Nat.add_mul]; omega
            rw [hm] at hv0
            clear hq hm
            by_cases cd : q + 1 < R
            · by_cases ce : low + m ≤ H
              · have hv : Hid (lookN lo hi' low S R T = true) := by show _ = _; rw [hv0, decide_eq_true cd, decide_eq_true ce]; rfl
                clear hv0
                have cd' : (q : Int) + 1 < R := by omega
                have ce' : (low : Int) + m ≤ H := by omega
                go_wp2_with fail
                rw [Exit.noGoto_ret]
                go_ret
                exact ⟨by rw [HY.out hv.out]; rfl, HW.out.alloc _⟩
              · have hv : Hid (lookN lo hi' low S R T = false) := by show _ = _; rw [hv0, decide_eq_false ce, Bool.and_false]
                clear hv0
                have ce' : ¬ (low : Int) + m ≤ H := by omega
                have cd' : (q : Int) + 1 < R := by omega
                go_wp2_with fail
                go_roundg (rs.length - (i + 1))
                case measure => omega
                case rel => exact ⟨i + 1, rfl, by go_num, by omega, HW.out.alloc _, HX.out hv.out⟩
            · have hv : Hid (lookN lo hi' low S R T = false) := by show _ = _; rw [hv0, decide_eq_false cd]; rfl
              clear hv0
              have cd' : ¬ (q : Int) + 1 < R := by omega
              go_wp2_with fail
              go_roundg (rs.length - (i + 1))
              case measure => omega
              case rel => exact ⟨i + 1, rfl, by go_num, by omega, HW.out.alloc _, HX.out hv.out⟩
          · rw [if_neg cc, Nat.zero_mul, Nat.add_zero] at hv0
            have R0 : 0 < R := R00
            have hv : Hid (lookN lo hi' low S R T = true) := by show _ = _; rw [hv0, decide_eq_true R0, decide_eq_true (by omega : low ≤ H)]; rfl
            clear hv0
            go_wp2_with fail
            rw [Exit.noGoto_ret]
            go_ret
            exact ⟨by rw [HY.out hv.out]; rfl, HW.out.alloc _⟩
    · go_wp2_with fail
      rw [Exit.noGoto_ret]
      go_ret
      refine ⟨?_, HW.out⟩
      rw [HNO.out (fun j hj => HBF.out j (by omega) hj)]
      rfl
end Go.Proofs.Ytkfohickmdkplaa

namespace Go.Proofs.Ytkfohickmdkplaa
open Go.RowKit Go.Proofs.Own Go.Proofs.Span
set_option maxRecDepth 100000
set_option maxHeartbeats 1600000

def pc (p : Nat × Nat) : List Value := [.int .u64 p.1, .int .u64 p.2]
/-- v is a row of ranges that the call owns -/
def Pairs (w : World) (v : Value) (rs : List (Nat × Nat)) : Prop := w.ownsRow 0 87 2 v rs.length (rs.flatMap pc)
theorem Pairs.new {w w' : World} {v : Value} {rs : List (Nat × Nat)} (h : Pairs w v rs) (hu : New w w') : Pairs w' v rs := ownsRow_new h hu
theorem Pairs.nil (w : World) : Pairs w (.slice none 0 0) [] := World.ownsRow_nil w 0 _ 2
theorem pc_at : ∀ (rs : List (Nat × Nat)) (i : Nat) (h : i < rs.length), (rs.flatMap pc)[i * 2]? = some (.int .u64 rs[i].1) ∧ (rs.flatMap pc)[i * 2 + 1]? = some (.int .u64 rs[i].2)
  | [], i, h => absurd h (Nat.not_lt_zero _)
  | p :: t, 0, _ => ⟨rfl, rfl⟩
  | p :: t, i + 1, h => by
    have := pc_at t i (by simpa using h)
    simpa [pc, Nat.add_mul, List.getElem?_cons] using this
theorem Pairs.shape {w : World} {v : Value} {rs : List (Nat × Nat)} (h : Pairs w v rs) : ∃ a cap, v = .slice a rs.length cap := by
  rcases h.2 with ⟨rfl, hn⟩ | ⟨g, cap, cur, rfl, _⟩
  · exact ⟨none, 0, by rw [hn]⟩
  · exact ⟨_, cap, rfl⟩
theorem Pairs.rdp {w : World} {v : Value} {rs : List (Nat × Nat)} (h : Pairs w v rs) : RdP w v rs := by
  have h0 := h
  obtain ⟨h1, h2⟩ := h
  rcases h2 with ⟨rfl, hn⟩ | ⟨g, cap, cur, rfl, _, hg, hn, hm, hs, ht⟩
  · have : rs = [] := List.eq_nil_of_length_eq_zero hn
    subst this
    exact ⟨none, 0, rfl, Nat.le_refl _, fun _ => rfl, fun h => absurd rfl h⟩
  · refine ⟨_, cap, rfl, hn, (fun h => by cases h), fun _ => ⟨g, 0, rfl, fun i hi => ?_⟩⟩
    have c := pc_at rs i hi
    have k0 := World.ownsRow.cells (g := g) h0 rfl _ _ c.1
    have k1 := World.ownsRow.cells (g := g) h0 rfl _ _ c.2
    rw [Addr.add_lit] at k0 k1
    exact ⟨k0, k1⟩

theorem info58 : (Try.prog.info? 87).map (fun i => (i.zero, i.size, i.bytes)) = some (some (.agg #[.int .u64 0, .int .u64 0]), 2, 16) := by kernel_rfl

/-- one range more, as a step of a region that draws its order -/
theorem stepP {ops : Array Oper} {o : Oper} {a : Act} {w : World} {K : Act → World → Prop} {Q : Exit → Act → World → Prop} {E : Prop} (s x : Operand) {sv : Value} {rs : List (Nat × Nat)} (p q : Nat) {g : Nat} {t : TypeId}
    (hb : Pairs w sv rs) (hz : Blk w g (.int .u64 p) (.int .u64 q) t) (hl : rs.length ≤ 1000000) (hw : Region.wanted o (yielded ops a.tmps) = true)
    (ho : o.op = .call { callee := .builtin .append, args := #[s, x], argTypes := #[83, 83] }) (hs : a.eval s = sv) (hx : a.eval x = .slice (some ⟨g, 0, none⟩) 1 1)
    (h : ∀ v' w', Pairs w' v' (rs ++ [(p, q)]) → Adds w w' sv v' → K (a.put o.dst v') w') :
    if Region.wanted o (yielded ops a.tmps) = true then Oper.wp Try.prog o a w K Q else E := by
  refine step_append 83 87 2 16 (.agg #[.int .u64 0, .int .u64 0]) info58 Try.underlying83 rfl (by decide) s x hw ho 0 sv rs.length (rs.flatMap pc) hs hb ⟨g, 0, none⟩ 1 1 (pc (p, q)) hx rfl ?_ ?_
    (by unfold maxLen; omega) (by omega) (Nat.zero_le _) ?_
  · intro j u hj
    match j, hj with
    | 0, hj => simp [pc] at hj; subst hj; simpa [Addr.add] using hz.c0
    | 1, hj => simp [pc] at hj; subst hj; simpa [Addr.add] using hz.c1
  · intro u hu
    simp [pc] at hu
    rcases hu with rfl | rfl <;> rfl
  · intro v' w' h1 h2
    refine h v' w' ?_ h2
    unfold Pairs
    rw [List.length_append, List.flatMap_append]
    simpa using h1

end Go.Proofs.Ytkfohickmdkplaa
