/-
  The walks of spans: the document's answers.
-/
import Derived.Test.YtlmimlnflcfccaaSpnP
namespace Go.Proofs.Ytlmimlnflcfccaa
open Go.RowKit Go.Proofs.Own Go.Proofs.Span
set_option maxRecDepth 100000
set_option maxHeartbeats 2000000

def rightB (mn mx : Int) : Bool := decide (0 ≤ mn) && (decide (mn ≤ mx) && (decide (mn ≤ 274877906944) && (decide (mx ≤ 274877906944) || decide (1099511627776 ≤ mx))))
theorem rightB_iff (mn mx : Int) : rightB mn mx = true ↔ right mn mx := by
  unfold rightB right
  simp only [Bool.and_eq_true, Bool.or_eq_true, decide_eq_true_eq]
def itemB (mn mx : Int) : Bool := rightB mn mx && (decide (1 ≤ mn) && (decide (mn ≤ 31) && (decide (mx ≤ 31) || decide (1099511627776 ≤ mx))))
theorem itemB_iff (mn mx : Int) : itemB mn mx = true ↔ item mn mx := by
  unfold itemB item
  simp only [Bool.and_eq_true, Bool.or_eq_true, decide_eq_true_eq, rightB_iff]

theorem right_any (mn mx : Int) (w : World) :
    Calls Try.prog 28 #[.agg #[.int .i64 mn, .int .i64 mx]] w fun e w' => e = .returned (.bool (rightB mn mx)) ∧ w.alloc (.cells #[.int .i64 mn, .int .i64 mx] 46) = w' := by
  by_cases h1 : (0 : Int) ≤ mn
  · by_cases h2 : mn ≤ mx
    · by_cases h3 : mn ≤ 274877906944
      · by_cases h4 : mx ≤ 274877906944
        · have HV : Hid (rightB mn mx = true) := by show _ = _; unfold rightB; simp [h1, h2, h3, h4]
          go_enter Try.func28, Try.ntmps28
          go_wp2_with fail
          go_ret
          exact ⟨by rw [HV.out]; rfl, rfl⟩
        · have HV : Hid (rightB mn mx = decide (1099511627776 ≤ mx)) := by show _ = _; unfold rightB; simp [h1, h2, h3, h4]
          go_enter Try.func28, Try.ntmps28
          go_wp2_with fail
          go_ret
          refine ⟨?_, rfl⟩
          rw [HV.out]
          first | rfl | (show Ending.returned (Value.bool (decide (mx ≤ 274877906944) || decide (1099511627776 ≤ mx))) = _; rw [decide_eq_false (by omega : ¬ mx ≤ 274877906944)]; rfl)
      · have HV : Hid (rightB mn mx = false) := by show _ = _; unfold rightB; simp [h1, h2, h3]
        go_enter Try.func28, Try.ntmps28
        go_wp2_with fail
        go_ret
        exact ⟨by rw [HV.out]; rfl, rfl⟩
    · have HV : Hid (rightB mn mx = false) := by show _ = _; unfold rightB; simp [h1, h2]
      go_enter Try.func28, Try.ntmps28
      go_wp2_with fail
      go_ret
      exact ⟨by rw [HV.out]; rfl, rfl⟩
  · have HV : Hid (rightB mn mx = false) := by show _ = _; unfold rightB; simp [h1]
    go_enter Try.func28, Try.ntmps28
    go_wp2_with fail
    go_ret
    exact ⟨by rw [HV.out]; rfl, rfl⟩

theorem rhas_any (mn mx n : Int) (w : World) :
    Calls Try.prog 31 #[.agg #[.int .i64 mn, .int .i64 mx], .int .i64 n] w fun e w' => e = .returned (.bool (has mn mx n)) ∧ w.alloc (.cells #[.int .i64 mn, .int .i64 mx] 46) = w' := by
  by_cases h1 : mn ≤ n
  · by_cases h2 : (1099511627776 : Int) ≤ mx
    · have HV : Hid (has mn mx n = true) := by show _ = _; unfold has; simp [h1, h2]
      go_enter Try.func31, Try.ntmps31
      go_wp2_with fail
      go_ret
      exact ⟨by rw [HV.out]; rfl, rfl⟩
    · have HV : Hid (has mn mx n = decide (n ≤ mx)) := by show _ = _; unfold has; simp [h1, h2]
      go_enter Try.func31, Try.ntmps31
      go_wp2_with fail
      go_ret
      refine ⟨?_, rfl⟩
      rw [HV.out]
      first | rfl | (show Ending.returned (Value.bool (decide (1099511627776 ≤ mx) || decide (n ≤ mx))) = _; rw [decide_eq_false (by omega : ¬ (1099511627776 : Int) ≤ mx)]; rfl)
  · have HV : Hid (has mn mx n = false) := by show _ = _; unfold has; simp [h1]
    go_enter Try.func31, Try.ntmps31
    go_wp2_with fail
    go_ret
    exact ⟨by rw [HV.out]; rfl, rfl⟩

theorem rand_any (an ax bn bx : Int) (w : World) (h1 : 0 ≤ an) (h2 : an ≤ 1000000000000000) (h3 : 0 ≤ bn) (h4 : bn ≤ 1000000000000000) (h5 : 0 ≤ ax) (h6 : 0 ≤ bx) :
    Calls Try.prog 33 #[.agg #[.int .i64 an, .int .i64 ax], .agg #[.int .i64 bn, .int .i64 bx]] w fun e w' =>
      e = .returned (.agg #[.int .i64 (an + bn), .int .i64 (most ax bx)]) ∧ New w w' := by
  by_cases ha : (1099511627776 : Int) ≤ ax
  · have HW : Hid (most ax bx = 1099511627776) := by show _ = _; unfold most; rw [if_pos (by omega)]
    go_enter Try.func33, Try.ntmps33
    go_wp2_with fail
    refine ret_agg rfl Try.underlying46 rfl (w.heap.size + 1 + 1) #[.int .i64 (an + bn), .int .i64 1099511627776] 46 (by kernel_rfl) rfl rfl ?_ ?_
    · repeat (first | (refine hp_new ?_; simp; done) | (refine hp_old ?_ ?_; · (simp <;> omega)))
    · rw [HW.out]
      exact ⟨rfl, by repeat (first | exact Upd.refl _ _ | apply Upd.alloc)⟩
  · by_cases hb : (1099511627776 : Int) ≤ bx
    · have HW : Hid (most ax bx = 1099511627776) := by show _ = _; unfold most; rw [if_pos (by omega)]
      go_enter Try.func33, Try.ntmps33
      go_wp2_with fail
      refine ret_agg rfl Try.underlying46 rfl (w.heap.size + 1 + 1) #[.int .i64 (an + bn), .int .i64 1099511627776] 46 (by kernel_rfl) rfl rfl ?_ ?_
      · repeat (first | (refine hp_new ?_; simp; done) | (refine hp_old ?_ ?_; · (simp <;> omega)))
      · rw [HW.out]
        exact ⟨rfl, by repeat (first | exact Upd.refl _ _ | apply Upd.alloc)⟩
    · by_cases hs : (1099511627776 : Int) < ax + bx
      · have HW : Hid (most ax bx = 1099511627776) := by show _ = _; unfold most; rw [if_pos (by omega)]
        go_enter Try.func33, Try.ntmps33
        go_wp2_with fail
        refine ret_agg rfl Try.underlying46 rfl (w.heap.size + 1 + 1) #[.int .i64 (an + bn), .int .i64 1099511627776] 46 (by kernel_rfl) rfl rfl ?_ ?_
        · repeat (first | (refine hp_new ?_; simp; done) | (refine hp_old ?_ ?_; · (simp <;> omega)))
        · rw [HW.out]
          exact ⟨rfl, by repeat (first | exact Upd.refl _ _ | apply Upd.alloc)⟩
      · have HW : Hid (most ax bx = ax + bx) := by show _ = _; unfold most; rw [if_neg (by omega)]
        go_enter Try.func33, Try.ntmps33
        go_wp2_with fail
        refine ret_agg rfl Try.underlying46 rfl (w.heap.size + 1 + 1) #[.int .i64 (an + bn), .int .i64 (ax + bx)] 46 (by kernel_rfl) rfl rfl ?_ ?_
        · repeat (first | (refine hp_new ?_; simp; done) | (refine hp_old ?_ ?_; · (simp <;> omega)))
        · rw [HW.out]
          exact ⟨rfl, by repeat (first | exact Upd.refl _ _ | apply Upd.alloc)⟩

theorem rmul_any (n m : Int) (w : World) (n1 : 1 ≤ n) (n2 : n ≤ 9223372036854775807) (m1 : 0 ≤ m) (m2 : m ≤ 9223372036854775807) :
    Calls Try.prog 66 #[.int .i64 n, .int .i64 m] w fun e w' => e = .returned (.int .i64 (mul n m)) ∧ w = w' := by
  by_cases h0 : (0 : Int) < m
  · have hq : (1099511627776 : Int) / m < n ↔ 1099511627776 < n * m := Int.ediv_lt_iff_lt_mul h0
    by_cases hlt : (1099511627776 : Int) / m < n
    · have HW : Hid (mul n m = 1099511627776) := by show _ = _; unfold mul; rw [if_pos (hq.mp hlt)]
      clear hq
      go_enter Try.func66, Try.ntmps66
      go_wp2_with fail
      go_ret
      exact ⟨by rw [HW.out]; rfl, rfl⟩
    · have HW : Hid (mul n m = n * m) := by show _ = _; unfold mul; rw [if_neg (fun h => hlt (hq.mpr h))]
      have hm : n * m ≤ 1099511627776 := by have := fun h => hlt (hq.mpr h); omega
      have hm0 : 0 ≤ n * m := Int.mul_nonneg (by omega) m1
      have hw : wrap64 (n * m) = n * m := by unfold wrap64; omega
      clear hq
      go_enter Try.func66, Try.ntmps66
      go_wp2_with fail
      go_ret
      exact ⟨by rw [HW.out]; rfl, rfl⟩
  · have hz : m = 0 := by omega
    subst hz
    have HW : Hid (mul n 0 = 0) := by show _ = _; unfold mul; simp
    go_enter Try.func66, Try.ntmps66
    go_wp2_with fail
    go_ret
    exact ⟨by rw [HW.out]; rfl, rfl⟩

theorem rTimes_any (mn mx n : Int) (w : World) (h1 : 0 ≤ mn) (h2 : mn ≤ 9223372036854775807) (h3 : 0 ≤ mx) (h4 : mx ≤ 9223372036854775807) (n2 : n ≤ 9223372036854775807) :
    Calls Try.prog 35 #[.agg #[.int .i64 mn, .int .i64 mx], .int .i64 n] w fun e w' => e = .returned (.agg #[.int .i64 (tm n mn), .int .i64 (tm n mx)]) ∧ New w w' := by
  by_cases hn : n ≤ 0
  · have HW : Hid (∀ a, tm n a = 0) := fun a => if_pos hn
    go_enter Try.func35, Try.ntmps35
    go_wp2_with fail
    refine ret_agg rfl Try.underlying46 rfl (w.heap.size + 1) #[.int .i64 0, .int .i64 0] 46 (by kernel_rfl) rfl rfl ?_ ?_
    · repeat (first | (refine hp_new ?_; simp; done) | (refine hp_old ?_ ?_; · (simp <;> omega)))
    · rw [HW.out, HW.out]
      exact ⟨rfl, by repeat (first | exact Upd.refl _ _ | apply Upd.alloc)⟩
  · have HW : Hid (∀ a, tm n a = mul n a) := fun a => if_neg hn
    have H1 := hid (fun w => rmul_any n mn w (by omega) n2 h1 h2)
    have H2 := hid (fun w => rmul_any n mx w (by omega) n2 h3 h4)
    by_cases he : (1099511627776 : Int) ≤ mx
    · have HT : Hid (mul n mx = 1099511627776) := mul_top n mx (by omega) he
      go_enter Try.func35, Try.ntmps35
      go_wp2_with (refine (H1.out _).mono ?_; rintro e w' ⟨rfl, rfl⟩)
      refine ret_agg rfl Try.underlying46 rfl (w.heap.size + 1) #[.int .i64 (mul n mn), .int .i64 1099511627776] 46 (by kernel_rfl) rfl rfl ?_ ?_
      · repeat (first | (refine hp_new ?_; simp; done) | (refine hp_old ?_ ?_; · (simp <;> omega)))
      · rw [HW.out, HW.out, HT.out]
        exact ⟨rfl, by repeat (first | exact Upd.refl _ _ | apply Upd.alloc)⟩
    · go_enter Try.func35, Try.ntmps35
      go_wp2_with fail
      have hn : New w ((w.alloc (.cells #[.int .i64 mn, .int .i64 mx] 46)).alloc (.cells #[.int .i64 0, .int .i64 0] 46)).drew ∧ ((w.alloc (.cells #[.int .i64 mn, .int .i64 mx] 46)).alloc (.cells #[.int .i64 0, .int .i64 0] 46)).drew.cell? ⟨w.heap.size, 0, none⟩ = some (.int .i64 mn) ∧ ((w.alloc (.cells #[.int .i64 mn, .int .i64 mx] 46)).alloc (.cells #[.int .i64 0, .int .i64 0] 46)).drew.cell? ⟨w.heap.size, 1, none⟩ = some (.int .i64 mx) :=
        ⟨(((Upd.refl _ _).alloc _).alloc _).drew, by simp, by simp⟩
      refine wp_region_noPanic ?_
      refine wp_region_held_drew (S := (fun w' => New w w' ∧ w'.cell? ⟨w.heap.size, 0, none⟩ = some (.int .i64 mn) ∧ w'.cell? ⟨w.heap.size, 1, none⟩ = some (.int .i64 mx))) (by kernel_rfl) (by first | exact hn | exact (Upd.refl _ _).drew | exact Upd.drew (by assumption)) (fun hn => ?_)
      refine wpAnyH_take (i := 0) (oi := { dst := some 16, op := Op.move (Operand.tmp 1), type := 3, pos := "ref.go:57", after := #[], guard := none }) (v := ?v29x1) rfl (by kernel_rfl) (by kernel_rfl) (by kernel_rfl) (fun _ _ _ h => h) (Or.inl ⟨by rfl, ?y29x1⟩) hn ?r29x1
      case y29x1 => (intro wS hS; (try go_simp); (try with_reducible rfl))
      try simp only [Act.put, List.setIfInBounds_toArray, List.set_cons_zero, List.set_cons_succ]
      refine wpAnyH_take (i := 1) (oi := { dst := some 17, op := Op.fieldAddr 46 (Operand.tmp 2) 0, type := 0, pos := "ref.go:57", after := #[], guard := none }) (v := ?v29x2) rfl (by kernel_rfl) (by kernel_rfl) (by kernel_rfl) (fun _ _ _ h => h) (Or.inl ⟨by rfl, ?y29x2⟩) hn ?r29x2
      case y29x2 => (intro wS hS; (try go_simp); (try with_reducible rfl))
      try simp only [Act.put, List.setIfInBounds_toArray, List.set_cons_zero, List.set_cons_succ]
      refine wpAnyH_take (i := 2) (oi := { dst := some 18, op := Op.load 3 (Operand.tmp 17), type := 3, pos := "ref.go:57", after := #[{ on := 1, ground := Ground.data }], guard := none }) (v := ?v29x3) rfl (by kernel_rfl) (by kernel_rfl) (by kernel_rfl) (fun _ _ _ h => h) (Or.inl ⟨by rfl, ?y29x3⟩) hn ?r29x3
      case y29x3 => (intro wS hS; obtain ⟨_, c0, c1⟩ := hS; (try go_simp); (try with_reducible rfl))
      try simp only [Act.put, List.setIfInBounds_toArray, List.set_cons_zero, List.set_cons_succ]
      refine wpAnyH_take (i := 4) (oi := { dst := some 20, op := Op.move (Operand.tmp 1), type := 3, pos := "ref.go:57", after := #[], guard := none }) (v := ?v29x4) rfl (by kernel_rfl) (by kernel_rfl) (by kernel_rfl) (fun _ _ _ h => h) (Or.inl ⟨by rfl, ?y29x4⟩) hn ?r29x4
      case y29x4 => (intro wS hS; (try go_simp); (try with_reducible rfl))
      try simp only [Act.put, List.setIfInBounds_toArray, List.set_cons_zero, List.set_cons_succ]
      refine wpAnyH_take (i := 5) (oi := { dst := some 21, op := Op.fieldAddr 46 (Operand.tmp 2) 1, type := 0, pos := "ref.go:57", after := #[], guard := none }) (v := ?v29x5) rfl (by kernel_rfl) (by kernel_rfl) (by kernel_rfl) (fun _ _ _ h => h) (Or.inl ⟨by rfl, ?y29x5⟩) hn ?r29x5
      case y29x5 => (intro wS hS; (try go_simp); (try with_reducible rfl))
      try simp only [Act.put, List.setIfInBounds_toArray, List.set_cons_zero, List.set_cons_succ]
      refine wpAnyH_take (i := 6) (oi := { dst := some 22, op := Op.load 3 (Operand.tmp 21), type := 3, pos := "ref.go:57", after := #[{ on := 5, ground := Ground.data }], guard := none }) (v := ?v29x6) rfl (by kernel_rfl) (by kernel_rfl) (by kernel_rfl) (fun _ _ _ h => h) (Or.inl ⟨by rfl, ?y29x6⟩) hn ?r29x6
      case y29x6 => (intro wS hS; obtain ⟨_, c0, c1⟩ := hS; (try go_simp); (try with_reducible rfl))
      try simp only [Act.put, List.setIfInBounds_toArray, List.set_cons_zero, List.set_cons_succ]
      refine wpAnyH_ready (rs := [3]) (by kernel_rfl) (by simp) ?_
      refine AllReadyH.cons (o := { dst := some 19, op := Op.call { callee := Callee.value (Operand.func 66), args := #[Operand.tmp 16, Operand.tmp 18], argTypes := #[3, 3] }, type := 3, pos := "ref.go:57", after := #[{ on := 0, ground := Ground.data }, { on := 2, ground := Ground.data }], guard := none }) rfl (fun K hK => ?_) AllReadyH.nil
      go_simp
      refine (H1.out _).mono ?_
      rintro e wa ⟨rfl, rfl⟩
      go_wp2_with fail
      refine hK.out _ _ (by first | exact hn | exact Upd.alloc hn _ | (exact ⟨(((Upd.refl _ _).alloc _).alloc _).drew, by simp, by simp⟩)) (fun hn => ?_)
      clear hK K
      try simp only [Act.put, List.setIfInBounds_toArray, List.set_cons_zero, List.set_cons_succ]
      refine wpAnyH_ready (rs := [7]) (by kernel_rfl) (by simp) ?_
      refine AllReadyH.cons (o := { dst := some 23, op := Op.call { callee := Callee.value (Operand.func 66), args := #[Operand.tmp 20, Operand.tmp 22], argTypes := #[3, 3] }, type := 3, pos := "ref.go:57", after := #[{ on := 4, ground := Ground.data }, { on := 6, ground := Ground.data }, { on := 3, ground := Ground.chain }], guard := none }) rfl (fun K hK => ?_) AllReadyH.nil
      go_simp
      refine (H2.out _).mono ?_
      rintro e wa ⟨rfl, rfl⟩
      go_wp2_with fail
      refine hK.out _ _ (by first | exact hn | exact Upd.alloc hn _ | (exact ⟨(((Upd.refl _ _).alloc _).alloc _).drew, by simp, by simp⟩)) (fun hn => ?_)
      clear hK K
      try simp only [Act.put, List.setIfInBounds_toArray, List.set_cons_zero, List.set_cons_succ]
      refine wpAnyH_take (i := 8) (oi := { dst := some 24, op := Op.build 46 #[(0, Operand.tmp 19), (1, Operand.tmp 23)], type := 46, pos := "ref.go:57", after := #[{ on := 3, ground := Ground.data }, { on := 7, ground := Ground.data }], guard := none }) (v := ?v29x7) rfl (by kernel_rfl) (by kernel_rfl) (by kernel_rfl) (fun _ _ _ h => h) (Or.inl ⟨by rfl, ?y29x7⟩) hn ?r29x7
      case y29x7 => (intro wS hS; (try go_simp); (try with_reducible rfl))
      try simp only [Act.put, List.setIfInBounds_toArray, List.set_cons_zero, List.set_cons_succ]
      refine wpAnyH_ready (rs := [9]) (by kernel_rfl) (by simp) ?_
      refine AllReadyH.cons (o := { dst := none, op := Op.store 46 (Operand.tmp 4) (Operand.tmp 24), type := 0, pos := "ref.go:57", after := #[{ on := 8, ground := Ground.data }, { on := 7, ground := Ground.chain }, { on := 0, ground := Ground.phase }, { on := 1, ground := Ground.phase }, { on := 2, ground := Ground.phase }, { on := 3, ground := Ground.phase }, { on := 4, ground := Ground.phase }, { on := 5, ground := Ground.phase }, { on := 6, ground := Ground.phase }, { on := 7, ground := Ground.phase }, { on := 8, ground := Ground.phase }], guard := none }) rfl (fun K hK => ?_) AllReadyH.nil
      go_simp
      refine hK.out _ _ (by first | exact hn | exact Upd.alloc hn _ | (exact ⟨(((Upd.refl _ _).alloc _).alloc _).drew, by simp, by simp⟩)) (fun hn => ?_)
      clear hK K
      try simp only [Act.put, List.setIfInBounds_toArray, List.set_cons_zero, List.set_cons_succ]
      refine wpAnyH_done (by kernel_rfl) ?_ _
      refine NoPanic.normal ?_
      go_wp2_with fail
      refine ret_agg rfl Try.underlying46 rfl (w.heap.size + 1) #[.int .i64 (mul n mn), .int .i64 (mul n mx)] 46 (by kernel_rfl) rfl rfl ?_ ?_
      · repeat (first | (refine hp_new ?_; simp; done) | (refine hp_old ?_ ?_; · (simp <;> omega)))
      · rw [HW.out, HW.out]
        exact ⟨rfl, hn.1⟩
end Go.Proofs.Ytlmimlnflcfccaa
