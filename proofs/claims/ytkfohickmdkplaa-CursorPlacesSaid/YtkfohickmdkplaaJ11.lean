/-
  The walks of spans: the program's.
-/
import Derived.Test.YtkfohickmdkplaaChecked
import Derived.Test.YtkfohickmdkplaaJ2
import Derived.Test.YtkfohickmdkplaaJ6
import Derived.Deep.RegionHeld3
import Derived.Deep.DeepCutAuto
namespace Go.Proofs.Ytkfohickmdkplaa
open Go.RowKit Go.Proofs.Own Go.Proofs.Span
set_option maxRecDepth 100000
set_option maxHeartbeats 2000000

theorem endless_any (mn mx : Int) (w : World) :
    Calls Try.prog 69 #[.agg #[.int .i64 mn, .int .i64 mx]] w fun e w' => e = .returned (.bool (decide (1099511627776 ≤ mx))) ∧ w.alloc (.cells #[.int .i64 mn, .int .i64 mx] 68) = w' := by
  go_enter Try.func69, Try.ntmps69
  go_wp2_with fail
  go_ret
  exact ⟨rfl, rfl⟩

theorem has_any (mn mx n : Int) (w : World) :
    Calls Try.prog 55 #[.agg #[.int .i64 mn, .int .i64 mx], .int .i64 n] w fun e w' => e = .returned (.bool (has mn mx n)) ∧ New w w' := by
  have HE := hid (endless_any mn mx)
  have HV : Hid (has mn mx n = (decide (mn ≤ n) && (decide (1099511627776 ≤ mx) || decide (n ≤ mx)))) := by show _ = _; rfl
  by_cases h1 : mn ≤ n
  · by_cases h2 : (1099511627776 : Int) ≤ mx
    · have HW : Hid ((decide (mn ≤ n) && (decide (1099511627776 ≤ mx) || decide (n ≤ mx))) = true) := by show _ = _; simp [h1, h2]
      go_enter Try.func55, Try.ntmps55
      go_wp2_with (refine (HE.out _).mono ?_; rintro e w' ⟨rfl, rfl⟩)
      go_ret
      rw [HV.out, HW.out]
      exact ⟨rfl, ((Upd.refl _ _).alloc _).alloc _⟩
    · have HW : Hid ((decide (mn ≤ n) && (decide (1099511627776 ≤ mx) || decide (n ≤ mx))) = decide (n ≤ mx)) := by show _ = _; simp [h1, h2]
      have H2 := hid h2
      go_enter Try.func55, Try.ntmps55
      go_wp2_with (refine (HE.out _).mono ?_; rintro e w' ⟨rfl, rfl⟩)
      go_ret
      refine ⟨?_, ((Upd.refl _ _).alloc _).alloc _⟩
      rw [HV.out, HW.out]
      show Ending.returned (Value.bool (decide (1099511627776 ≤ mx) || decide (n ≤ mx))) = _
      rw [decide_eq_false (by have := H2.out; omega)]
      rfl
  · have HW : Hid ((decide (mn ≤ n) && (decide (1099511627776 ≤ mx) || decide (n ≤ mx))) = false) := by show _ = _; simp [h1]
    go_enter Try.func55, Try.ntmps55
    go_wp2_with fail
    go_ret
    rw [HV.out, HW.out]
    exact ⟨rfl, (Upd.refl _ _).alloc _⟩

/-- a count, several times -/
def tm (n a : Int) : Int := if n ≤ 0 then 0 else mul n a
theorem mul_top (n a : Int) (hn : 1 ≤ n) (ha : 1099511627776 ≤ a) : mul n a = 1099511627776 := by
  have : 1 * a ≤ n * a := Int.mul_le_mul_of_nonneg_right hn (by omega)
  unfold mul; split <;> omega
end Go.Proofs.Ytkfohickmdkplaa

namespace Go.Proofs.Ytkfohickmdkplaa
open Go.RowKit Go.Proofs.Own Go.Proofs.Span
set_option maxRecDepth 100000
set_option maxHeartbeats 2000000

def rightB (mn mx : Int) : Bool := decide (0 ≤ mn) && (decide (mn ≤ mx) && (decide (mn ≤ 274877906944) && (decide (mx ≤ 274877906944) || decide (1099511627776 ≤ mx))))
theorem rightB_iff (mn mx : Int) : rightB mn mx = true ↔ right mn mx := by
  unfold rightB right
  simp only [Bool.and_eq_true, Bool.or_eq_true, decide_eq_true_eq]
def itemB (mn mx : Int) : Bool := rightB mn mx && (decide (1 ≤ mn) && (decide (mn ≤ 31) && (decide (mx ≤ 31) || decide (1099511627776 ≤ mx))))
theorem itemB_iff (mn mx : Int) : itemB mn mx = true ↔ item mn mx := by
  unfold itemB item
  simp only [Bool.and_eq_true, Bool.or_eq_true, decide_eq_true_eq, rightB_iff]

theorem right_any (mn mx : Int) (w : World) :
    Calls Try.prog 15 #[.agg #[.int .i64 mn, .int .i64 mx]] w fun e w' => e = .returned (.bool (rightB mn mx)) ∧ w.alloc (.cells #[.int .i64 mn, .int .i64 mx] 44) = w' := by
  by_cases h1 : (0 : Int) ≤ mn
  · by_cases h2 : mn ≤ mx
    · by_cases h3 : mn ≤ 274877906944
      · by_cases h4 : mx ≤ 274877906944
        · have HV : Hid (rightB mn mx = true) := by show _ = _; unfold rightB; simp [h1, h2, h3, h4]
          go_enter Try.func15, Try.ntmps15
          go_wp2_with fail
          go_ret
          exact ⟨by rw [HV.out]; rfl, rfl⟩
        · have HV : Hid (rightB mn mx = decide (1099511627776 ≤ mx)) := by show _ = _; unfold rightB; simp [h1, h2, h3, h4]
          go_enter Try.func15, Try.ntmps15
          go_wp2_with fail
          go_ret
          refine ⟨?_, rfl⟩
          rw [HV.out]
          first | rfl | (show Ending.returned (Value.bool (decide (mx ≤ 274877906944) || decide (1099511627776 ≤ mx))) = _; rw [decide_eq_false (by omega : ¬ mx ≤ 274877906944)]; rfl)
      · have HV : Hid (rightB mn mx = false) := by show _ = _; unfold rightB; simp [h1, h2, h3]
        go_enter Try.func15, Try.ntmps15
        go_wp2_with fail
        go_ret
        exact ⟨by rw [HV.out]; rfl, rfl⟩
    · have HV : Hid (rightB mn mx = false) := by show _ = _; unfold rightB; simp [h1, h2]
      go_enter Try.func15, Try.ntmps15
      go_wp2_with fail
      go_ret
      exact ⟨by rw [HV.out]; rfl, rfl⟩
  · have HV : Hid (rightB mn mx = false) := by show _ = _; unfold rightB; simp [h1]
    go_enter Try.func15, Try.ntmps15
    go_wp2_with fail
    go_ret
    exact ⟨by rw [HV.out]; rfl, rfl⟩

theorem rhas_any (mn mx n : Int) (w : World) :
    Calls Try.prog 67 #[.agg #[.int .i64 mn, .int .i64 mx], .int .i64 n] w fun e w' => e = .returned (.bool (has mn mx n)) ∧ w.alloc (.cells #[.int .i64 mn, .int .i64 mx] 44) = w' := by
  by_cases h1 : mn ≤ n
  · by_cases h2 : (1099511627776 : Int) ≤ mx
    · have HV : Hid (has mn mx n = true) := by show _ = _; unfold has; simp [h1, h2]
      go_enter Try.func67, Try.ntmps67
      go_wp2_with fail
      go_ret
      exact ⟨by rw [HV.out]; rfl, rfl⟩
    · have HV : Hid (has mn mx n = decide (n ≤ mx)) := by show _ = _; unfold has; simp [h1, h2]
      go_enter Try.func67, Try.ntmps67
      go_wp2_with fail
      go_ret
      refine ⟨?_, rfl⟩
      rw [HV.out]
      first | rfl | (show Ending.returned (Value.bool (decide (1099511627776 ≤ mx) || decide (n ≤ mx))) = _; rw [decide_eq_false (by omega : ¬ (1099511627776 : Int) ≤ mx)]; rfl)
  · have HV : Hid (has mn mx n = false) := by show _ = _; unfold has; simp [h1]
    go_enter Try.func67, Try.ntmps67
    go_wp2_with fail
    go_ret
    exact ⟨by rw [HV.out]; rfl, rfl⟩

theorem rand_any (an ax bn bx : Int) (w : World) (h1 : 0 ≤ an) (h2 : an ≤ 1000000000000000) (h3 : 0 ≤ bn) (h4 : bn ≤ 1000000000000000) (h5 : 0 ≤ ax) (h6 : 0 ≤ bx) :
    Calls Try.prog 77 #[.agg #[.int .i64 an, .int .i64 ax], .agg #[.int .i64 bn, .int .i64 bx]] w fun e w' =>
      e = .returned (.agg #[.int .i64 (an + bn), .int .i64 (most ax bx)]) ∧ New w w' := by
  by_cases ha : (1099511627776 : Int) ≤ ax
  · have HW : Hid (most ax bx = 1099511627776) := by show _ = _; unfold most; rw [if_pos (by omega)]
    go_enter Try.func77, Try.ntmps77
    go_wp2_with fail
    refine ret_agg rfl Try.underlying44 rfl (w.heap.size + 1 + 1) #[.int .i64 (an + bn), .int .i64 1099511627776] 44 (by kernel_rfl) rfl rfl ?_ ?_
    · repeat (first | (refine hp_new ?_; simp; done) | (refine hp_old ?_ ?_; · (simp <;> omega)))
    · rw [HW.out]
      exact ⟨rfl, by repeat (first | exact Upd.refl _ _ | apply Upd.alloc)⟩
  · by_cases hb : (1099511627776 : Int) ≤ bx
    · have HW : Hid (most ax bx = 1099511627776) := by show _ = _; unfold most; rw [if_pos (by omega)]
      go_enter Try.func77, Try.ntmps77
      go_wp2_with fail
      refine ret_agg rfl Try.underlying44 rfl (w.heap.size + 1 + 1) #[.int .i64 (an + bn), .int .i64 1099511627776] 44 (by kernel_rfl) rfl rfl ?_ ?_
      · repeat (first | (refine hp_new ?_; simp; done) | (refine hp_old ?_ ?_; · (simp <;> omega)))
      · rw [HW.out]
        exact ⟨rfl, by repeat (first | exact Upd.refl _ _ | apply Upd.alloc)⟩
    · by_cases hs : (1099511627776 : Int) < ax + bx
      · have HW : Hid (most ax bx = 1099511627776) := by show _ = _; unfold most; rw [if_pos (by omega)]
        go_enter Try.func77, Try.ntmps77
        go_wp2_with fail
        refine ret_agg rfl Try.underlying44 rfl (w.heap.size + 1 + 1) #[.int .i64 (an + bn), .int .i64 1099511627776] 44 (by kernel_rfl) rfl rfl ?_ ?_
        · repeat (first | (refine hp_new ?_; simp; done) | (refine hp_old ?_ ?_; · (simp <;> omega)))
        · rw [HW.out]
          exact ⟨rfl, by repeat (first | exact Upd.refl _ _ | apply Upd.alloc)⟩
      · have HW : Hid (most ax bx = ax + bx) := by show _ = _; unfold most; rw [if_neg (by omega)]
        go_enter Try.func77, Try.ntmps77
        go_wp2_with fail
        refine ret_agg rfl Try.underlying44 rfl (w.heap.size + 1 + 1) #[.int .i64 (an + bn), .int .i64 (ax + bx)] 44 (by kernel_rfl) rfl rfl ?_ ?_
        · repeat (first | (refine hp_new ?_; simp; done) | (refine hp_old ?_ ?_; · (simp <;> omega)))
        · rw [HW.out]
          exact ⟨rfl, by repeat (first | exact Upd.refl _ _ | apply Upd.alloc)⟩

theorem rmul_any (n m : Int) (w : World) (n1 : 1 ≤ n) (n2 : n ≤ 9223372036854775807) (m1 : 0 ≤ m) (m2 : m ≤ 9223372036854775807) :
    Calls Try.prog 81 #[.int .i64 n, .int .i64 m] w fun e w' => e = .returned (.int .i64 (mul n m)) ∧ w = w' := by
  by_cases h0 : (0 : Int) < m
  · have hq : (1099511627776 : Int) / m < n ↔ 1099511627776 < n * m := Int.ediv_lt_iff_lt_mul h0
    by_cases hlt : (1099511627776 : Int) / m < n
    · have HW : Hid (mul n m = 1099511627776) := by show _ = _; unfold mul; rw [if_pos (hq.mp hlt)]
      clear hq
      go_enter Try.func81, Try.ntmps81
      go_wp2_with fail
      go_ret
      exact ⟨by rw [HW.out]; rfl, rfl⟩
    · have HW : Hid (mul n m = n * m) := by show _ = _; unfold mul; rw [if_neg (fun h => hlt (hq.mpr h))]
      have hm : n * m ≤ 1099511627776 := by have := fun h => hlt (hq.mpr h); omega
      have hm0 : 0 ≤ n * m := Int.mul_nonneg (by omega) m1
      have hw : wrap64 (n * m) = n * m := by unfold wrap64; omega
      clear hq
      go_enter Try.func81, Try.ntmps81
      go_wp2_with fail
      go_ret
      exact ⟨by rw [HW.out]; rfl, rfl⟩
  · have hz : m = 0 := by omega
    subst hz
    have HW : Hid (mul n 0 = 0) := by show _ = _; unfold mul; simp
    go_enter Try.func81, Try.ntmps81
    go_wp2_with fail
    go_ret
    exact ⟨by rw [HW.out]; rfl, rfl⟩

theorem rTimes_any (mn mx n : Int) (w : World) (h1 : 0 ≤ mn) (h2 : mn ≤ 9223372036854775807) (h3 : 0 ≤ mx) (h4 : mx ≤ 9223372036854775807) (n2 : n ≤ 9223372036854775807) :
    Calls Try.prog 78 #[.agg #[.int .i64 mn, .int .i64 mx], .int .i64 n] w fun e w' => e = .returned (.agg #[.int .i64 (tm n mn), .int .i64 (tm n mx)]) ∧ New w w' := by
  by_cases hn : n ≤ 0
  · have HW : Hid (∀ a, tm n a = 0) := fun a => if_pos hn
    go_enter Try.func78, Try.ntmps78
    go_wp2_with fail
    refine ret_agg rfl Try.underlying44 rfl (w.heap.size + 1) #[.int .i64 0, .int .i64 0] 44 (by kernel_rfl) rfl rfl ?_ ?_
    · repeat (first | (refine hp_new ?_; simp; done) | (refine hp_old ?_ ?_; · (simp <;> omega)))
    · rw [HW.out, HW.out]
      exact ⟨rfl, by repeat (first | exact Upd.refl _ _ | apply Upd.alloc)⟩
  · have HW : Hid (∀ a, tm n a = mul n a) := fun a => if_neg hn
    have H1 := hid (fun w => rmul_any n mn w (by omega) n2 h1 h2)
    have H2 := hid (fun w => rmul_any n mx w (by omega) n2 h3 h4)
    by_cases he : (1099511627776 : Int) ≤ mx
    · have HT : Hid (mul n mx = 1099511627776) := mul_top n mx (by omega) he
      go_enter Try.func78, Try.ntmps78
      go_wp2_with (refine (H1.out _).mono ?_; rintro e w' ⟨rfl, rfl⟩)
      refine ret_agg rfl Try.underlying44 rfl (w.heap.size + 1) #[.int .i64 (mul n mn), .int .i64 1099511627776] 44 (by kernel_rfl) rfl rfl ?_ ?_
      · repeat (first | (refine hp_new ?_; simp; done) | (refine hp_old ?_ ?_; · (simp <;> omega)))
      · rw [HW.out, HW.out, HT.out]
        exact ⟨rfl, by repeat (first | exact Upd.refl _ _ | apply Upd.alloc)⟩
    · go_enter Try.func78, Try.ntmps78
      go_wp2_with fail
      have hn : New w ((w.alloc (.cells #[.int .i64 mn, .int .i64 mx] 44)).alloc (.cells #[.int .i64 0, .int .i64 0] 44)).drew ∧ ((w.alloc (.cells #[.int .i64 mn, .int .i64 mx] 44)).alloc (.cells #[.int .i64 0, .int .i64 0] 44)).drew.cell? ⟨w.heap.size, 0, none⟩ = some (.int .i64 mn) ∧ ((w.alloc (.cells #[.int .i64 mn, .int .i64 mx] 44)).alloc (.cells #[.int .i64 0, .int .i64 0] 44)).drew.cell? ⟨w.heap.size, 1, none⟩ = some (.int .i64 mx) :=
        ⟨(((Upd.refl _ _).alloc _).alloc _).drew, by simp, by simp⟩
      refine wp_region_noPanic ?_
      refine wp_region_held_drew (S := (fun w' => New w w' ∧ w'.cell? ⟨w.heap.size, 0, none⟩ = some (.int .i64 mn) ∧ w'.cell? ⟨w.heap.size, 1, none⟩ = some (.int .i64 mx))) (by kernel_rfl) (by first | exact hn | exact (Upd.refl _ _).drew | exact Upd.drew (by assumption)) (fun hn => ?_)
      refine wpAnyH_take (i := 0) (oi := { dst := some 16, op := Op.move (Operand.tmp 1), type := 3, pos := "ref.go:57", after := #[], guard := none }) (v := ?v4x1) rfl (by kernel_rfl) (by kernel_rfl) (by kernel_rfl) (fun _ _ _ h => h) (Or.inl ⟨by rfl, ?y4x1⟩) hn ?r4x1
      case y4x1 => (intro wS hS; (try go_simp); (try with_reducible rfl))
      try simp only [Act.put, List.setIfInBounds_toArray, List.set_cons_zero, List.set_cons_succ]
      refine wpAnyH_take (i := 1) (oi := { dst := some 17, op := Op.fieldAddr 44 (Operand.tmp 2) 0, type := 0, pos := "ref.go:57", after := #[], guard := none }) (v := ?v4x2) rfl (by kernel_rfl) (by kernel_rfl) (by kernel_rfl) (fun _ _ _ h => h) (Or.inl ⟨by rfl, ?y4x2⟩) hn ?r4x2
      case y4x2 => (intro wS hS; (try go_simp); (try with_reducible rfl))
      try simp only [Act.put, List.setIfInBounds_toArray, List.set_cons_zero, List.set_cons_succ]
      refine wpAnyH_take (i := 2) (oi := { dst := some 18, op := Op.load 3 (Operand.tmp 17), type := 3, pos := "ref.go:57", after := #[{ on := 1, ground := Ground.data }], guard := none }) (v := ?v4x3) rfl (by kernel_rfl) (by kernel_rfl) (by kernel_rfl) (fun _ _ _ h => h) (Or.inl ⟨by rfl, ?y4x3⟩) hn ?r4x3
      case y4x3 => (intro wS hS; obtain ⟨_, c0, c1⟩ := hS; (try go_simp); (try with_reducible rfl))
      try simp only [Act.put, List.setIfInBounds_toArray, List.set_cons_zero, List.set_cons_succ]
      refine wpAnyH_take (i := 4) (oi := { dst := some 20, op := Op.move (Operand.tmp 1), type := 3, pos := "ref.go:57", after := #[], guard := none }) (v := ?v4x4) rfl (by kernel_rfl) (by kernel_rfl) (by kernel_rfl) (fun _ _ _ h => h) (Or.inl ⟨by rfl, ?y4x4⟩) hn ?r4x4
      case y4x4 => (intro wS hS; (try go_simp); (try with_reducible rfl))
      try simp only [Act.put, List.setIfInBounds_toArray, List.set_cons_zero, List.set_cons_succ]
      refine wpAnyH_take (i := 5) (oi := { dst := some 21, op := Op.fieldAddr 44 (Operand.tmp 2) 1, type := 0, pos := "ref.go:57", after := #[], guard := none }) (v := ?v4x5) rfl (by kernel_rfl) (by kernel_rfl) (by kernel_rfl) (fun _ _ _ h => h) (Or.inl ⟨by rfl, ?y4x5⟩) hn ?r4x5
      case y4x5 => (intro wS hS; (try go_simp); (try with_reducible rfl))
      try simp only [Act.put, List.setIfInBounds_toArray, List.set_cons_zero, List.set_cons_succ]
      refine wpAnyH_take (i := 6) (oi := { dst := some 22, op := Op.load 3 (Operand.tmp 21), type := 3, pos := "ref.go:57", after := #[{ on := 5, ground := Ground.data }], guard := none }) (v := ?v4x6) rfl (by kernel_rfl) (by kernel_rfl) (by kernel_rfl) (fun _ _ _ h => h) (Or.inl ⟨by rfl, ?y4x6⟩) hn ?r4x6
      case y4x6 => (intro wS hS; obtain ⟨_, c0, c1⟩ := hS; (try go_simp); (try with_reducible rfl))
      try simp only [Act.put, List.setIfInBounds_toArray, List.set_cons_zero, List.set_cons_succ]
      refine wpAnyH_ready (rs := [3]) (by kernel_rfl) (by simp) ?_
      refine AllReadyH.cons (o := { dst := some 19, op := Op.call { callee := Callee.value (Operand.func 81), args := #[Operand.tmp 16, Operand.tmp 18], argTypes := #[3, 3] }, type := 3, pos := "ref.go:57", after := #[{ on := 0, ground := Ground.data }, { on := 2, ground := Ground.data }], guard := none }) rfl (fun K hK => ?_) AllReadyH.nil
      go_simp
      refine (H1.out _).mono ?_
      rintro e wa ⟨rfl, rfl⟩
      go_wp2_with fail
      refine hK.out _ _ (by first | exact hn | exact Upd.alloc hn _ | (exact ⟨(((Upd.refl _ _).alloc _).alloc _).drew, by simp, by simp⟩)) (fun hn => ?_)
      clear hK K
      try simp only [Act.put, List.setIfInBounds_toArray, List.set_cons_zero, List.set_cons_succ]
      refine wpAnyH_ready (rs := [7]) (by kernel_rfl) (by simp) ?_
      refine AllReadyH.cons (o := { dst := some 23, op := Op.call { callee := Callee.value (Operand.func 81), args := #[Operand.tmp 20, Operand.tmp 22], argTypes := #[3, 3] }, type := 3, pos := "ref.go:57", after := #[{ on := 4, ground := Ground.data }, { on := 6, ground := Ground.data }, { on := 3, ground := Ground.chain }], guard := none }) rfl (fun K hK => ?_) AllReadyH.nil
      go_simp
      refine (H2.out _).mono ?_
      rintro e wa ⟨rfl, rfl⟩
      go_wp2_with fail
      refine hK.out _ _ (by first | exact hn | exact Upd.alloc hn _ | (exact ⟨(((Upd.refl _ _).alloc _).alloc _).drew, by simp, by simp⟩)) (fun hn => ?_)
      clear hK K
      try simp only [Act.put, List.setIfInBounds_toArray, List.set_cons_zero, List.set_cons_succ]
      refine wpAnyH_take (i := 8) (oi := { dst := some 24, op := Op.build 44 #[(0, Operand.tmp 19), (1, Operand.tmp 23)], type := 44, pos := "ref.go:57", after := #[{ on := 3, ground := Ground.data }, { on := 7, ground := Ground.data }], guard := none }) (v := ?v4x7) rfl (by kernel_rfl) (by kernel_rfl) (by kernel_rfl) (fun _ _ _ h => h) (Or.inl ⟨by rfl, ?y4x7⟩) hn ?r4x7
      case y4x7 => (intro wS hS; (try go_simp); (try with_reducible rfl))
      try simp only [Act.put, List.setIfInBounds_toArray, List.set_cons_zero, List.set_cons_succ]
      refine wpAnyH_ready (rs := [9]) (by kernel_rfl) (by simp) ?_
      refine AllReadyH.cons (o := { dst := none, op := Op.store 44 (Operand.tmp 4) (Operand.tmp 24), type := 0, pos := "ref.go:57", after := #[{ on := 8, ground := Ground.data }, { on := 7, ground := Ground.chain }, { on := 0, ground := Ground.phase }, { on := 1, ground := Ground.phase }, { on := 2, ground := Ground.phase }, { on := 3, ground := Ground.phase }, { on := 4, ground := Ground.phase }, { on := 5, ground := Ground.phase }, { on := 6, ground := Ground.phase }, { on := 7, ground := Ground.phase }, { on := 8, ground := Ground.phase }], guard := none }) rfl (fun K hK => ?_) AllReadyH.nil
      go_simp
      refine hK.out _ _ (by first | exact hn | exact Upd.alloc hn _ | (exact ⟨(((Upd.refl _ _).alloc _).alloc _).drew, by simp, by simp⟩)) (fun hn => ?_)
      clear hK K
      try simp only [Act.put, List.setIfInBounds_toArray, List.set_cons_zero, List.set_cons_succ]
      refine wpAnyH_done (by kernel_rfl) ?_ _
      refine NoPanic.normal ?_
      go_wp2_with fail
      refine ret_agg rfl Try.underlying44 rfl (w.heap.size + 1) #[.int .i64 (mul n mn), .int .i64 (mul n mx)] 44 (by kernel_rfl) rfl rfl ?_ ?_
      · repeat (first | (refine hp_new ?_; simp; done) | (refine hp_old ?_ ?_; · (simp <;> omega)))
      · rw [HW.out, HW.out]
        exact ⟨rfl, hn.1⟩
end Go.Proofs.Ytkfohickmdkplaa

namespace Go.Proofs.Ytkfohickmdkplaa
open Go.RowKit Go.Proofs.Own Go.Proofs.Span
set_option maxRecDepth 100000
set_option maxHeartbeats 800000

theorem ritem_any (mn mx : Int) (w : World) :
    Calls Try.prog 14 #[.agg #[.int .i64 mn, .int .i64 mx]] w fun e w' => e = .returned (.bool (itemB mn mx)) ∧ New w w' := by
  obtain ⟨c, hr⟩ : ∃ c, rightB mn mx = c := ⟨_, rfl⟩
  have HR := hid (right_any mn mx)
  rw [hr] at HR
  cases c with
  | false =>
    have HV : Hid (itemB mn mx = false) := by show _ = _; unfold itemB; rw [hr]; rfl
    clear hr
    go_enter Try.func14, Try.ntmps14
    go_wp2_with (go_at_call 15; refine (HR.out _).mono ?_; rintro e w' ⟨rfl, rfl⟩)
    go_ret
    exact ⟨by rw [HV.out]; rfl, by repeat (first | exact Upd.refl _ _ | apply Upd.alloc)⟩
  | true =>
    have HI : Hid (itemB mn mx = (decide (1 ≤ mn) && (decide (mn ≤ 31) && (decide (mx ≤ 31) || decide (1099511627776 ≤ mx))))) := by show _ = _; unfold itemB; rw [hr]; rfl
    clear hr
    by_cases h1 : (1 : Int) ≤ mn
    · by_cases h2 : mn ≤ 31
      · by_cases h3 : mx ≤ 31
        · have HV : Hid (itemB mn mx = true) := by show _ = _; rw [HI.out]; simp [h1, h2, h3]
          go_enter Try.func14, Try.ntmps14
          go_wp2_with (go_at_call 15; refine (HR.out _).mono ?_; rintro e w' ⟨rfl, rfl⟩)
          go_ret
          exact ⟨by rw [HV.out]; rfl, by repeat (first | exact Upd.refl _ _ | apply Upd.alloc)⟩
        · have HV : Hid (itemB mn mx = decide (1099511627776 ≤ mx)) := by show _ = _; rw [HI.out]; simp [h1, h2, h3]
          go_enter Try.func14, Try.ntmps14
          go_wp2_with (go_at_call 15; refine (HR.out _).mono ?_; rintro e w' ⟨rfl, rfl⟩)
          go_ret
          refine ⟨?_, by repeat (first | exact Upd.refl _ _ | apply Upd.alloc)⟩
          rw [HV.out]
          first | rfl | (show Ending.returned (Value.bool (decide (mx ≤ 31) || decide (1099511627776 ≤ mx))) = _; rw [decide_eq_false (by omega : ¬ mx ≤ 31)]; rfl)
      · have HV : Hid (itemB mn mx = false) := by show _ = _; rw [HI.out]; simp [h1, h2]
        go_enter Try.func14, Try.ntmps14
        go_wp2_with (go_at_call 15; refine (HR.out _).mono ?_; rintro e w' ⟨rfl, rfl⟩)
        go_ret
        exact ⟨by rw [HV.out]; rfl, by repeat (first | exact Upd.refl _ _ | apply Upd.alloc)⟩
    · have HV : Hid (itemB mn mx = false) := by show _ = _; rw [HI.out]; simp [h1]
      go_enter Try.func14, Try.ntmps14
      go_wp2_with (go_at_call 15; refine (HR.out _).mono ?_; rintro e w' ⟨rfl, rfl⟩)
      go_ret
      exact ⟨by rw [HV.out]; rfl, by repeat (first | exact Upd.refl _ _ | apply Upd.alloc)⟩

theorem parts_any (on ox bn bx r v : Int) (w : World) (r0 : 0 ≤ r) (r1 : r ≤ 1099511627776) (v0 : 0 ≤ v) (v1 : v ≤ 4294967295) :
    Calls Try.prog 74 #[.agg #[.int .i64 on, .int .i64 ox], .agg #[.int .i64 bn, .int .i64 bx], .int .i64 r, .int .i64 v] w fun e w' =>
      e = .returned (.bool (parts on ox bn bx r v)) ∧ New w w' := by
  obtain ⟨c, hh⟩ : ∃ c, has on ox v = c := ⟨_, rfl⟩
  have HH := hid (rhas_any on ox v)
  have HG := hid (rhas_any bn bx (r - v))
  rw [hh] at HH
  cases c with
  | false =>
    have HV : Hid (parts on ox bn bx r v = false) := by show _ = _; unfold parts; rw [if_pos (.inl hh)]
    clear hh
    go_enter Try.func74, Try.ntmps74
    go_wp2_with (go_at_call 67; refine (HH.out _).mono ?_; rintro e w' ⟨rfl, rfl⟩)
    go_ret
    exact ⟨by rw [HV.out]; rfl, by repeat (first | exact Upd.refl _ _ | apply Upd.alloc)⟩
  | true =>
    by_cases h1 : (1099511627776 : Int) ≤ r
    · have HV : Hid (parts on ox bn bx r v = decide (1099511627776 ≤ bx)) := by
        show _ = _; unfold parts; rw [if_neg (by rw [hh]; simp; omega), if_pos h1]
      clear hh
      go_enter Try.func74, Try.ntmps74
      go_wp2_with (go_at_call 67; refine (HH.out _).mono ?_; rintro e w' ⟨rfl, rfl⟩)
      go_ret
      exact ⟨by rw [HV.out]; rfl, by repeat (first | exact Upd.refl _ _ | apply Upd.alloc)⟩
    · by_cases h2 : r < v
      · have HV : Hid (parts on ox bn bx r v = false) := by show _ = _; unfold parts; rw [if_pos (.inr ⟨by omega, h2⟩)]
        clear hh
        go_enter Try.func74, Try.ntmps74
        go_wp2_with (go_at_call 67; refine (HH.out _).mono ?_; rintro e w' ⟨rfl, rfl⟩)
        go_ret
        exact ⟨by rw [HV.out]; rfl, by repeat (first | exact Upd.refl _ _ | apply Upd.alloc)⟩
      · have HV : Hid (parts on ox bn bx r v = has bn bx (r - v)) := by
          show _ = _; unfold parts; rw [if_neg (by rw [hh]; simp; omega), if_neg h1]
        clear hh
        go_enter Try.func74, Try.ntmps74
        go_wp2_with fail
        refine (HH.out _).mono ?_
        rintro e w' ⟨rfl, rfl⟩
        go_wp2_with fail
        refine (HG.out _).mono ?_
        rintro e w' ⟨rfl, rfl⟩
        go_wp2_with fail
        go_ret
        exact ⟨by rw [HV.out]; rfl, by repeat (first | exact Upd.refl _ _ | apply Upd.alloc)⟩
end Go.Proofs.Ytkfohickmdkplaa

namespace Go.Proofs.Ytkfohickmdkplaa
open Go.RowKit Go.Proofs.Own Go.Proofs.Span
set_option maxRecDepth 100000
set_option maxHeartbeats 800000

theorem tm_bd {n a : Int} (h : 0 ≤ a) : 0 ≤ tm n a ∧ tm n a ≤ 1099511627776 := by
  unfold tm mul
  split
  · omega
  · have := Int.mul_nonneg (a := n) (b := a) (by omega) h
    split <;> omega

theorem makes_any (ix mx bn bx r n : Int) (w : World) (h1 : 0 ≤ ix) (h2 : ix ≤ 9223372036854775807) (h3 : 0 ≤ mx) (h4 : mx ≤ 9223372036854775807) (h5 : 0 ≤ bn) (h6 : bn ≤ 274877906944) (h7 : 0 ≤ bx) (n0 : 0 ≤ n) (n1 : n ≤ 4294967295) :
    Calls Try.prog 73 #[.agg #[.int .i64 ix, .int .i64 mx], .agg #[.int .i64 bn, .int .i64 bx], .int .i64 r, .int .i64 n] w fun e w' =>
      e = .returned (.bool (makes ix mx bn bx r n)) ∧ New w w' := by
  have HT := hid (fun w => rTimes_any ix mx n w h1 h2 h3 h4 (by omega))
  have tb := tm_bd (n := n) h1
  have tc := tm_bd (n := n) h3
  have HA := hid (fun w => rand_any (tm n ix) (tm n mx) bn bx w tb.1 (by omega) h5 (by omega) tc.1 h7)
  have HM : Hid (makes ix mx bn bx r n = (has (tm n ix + bn) (most (tm n mx) bx) r && (decide (r < 1099511627776) || decide (1099511627776 ≤ most (tm n mx) bx)))) := by
    show _ = _
    unfold makes tm
    by_cases hz : n ≤ 0
    · simp only [if_pos hz]
    · simp only [if_neg hz]
      by_cases he : (1099511627776 : Int) ≤ mx
      · rw [if_pos he, mul_top n mx (by omega) he]
      · rw [if_neg he]
  generalize most (tm n mx) bx = M at *
  generalize tm n ix + bn = B at *
  have HH := hid (fun w => rhas_any B M r w)
  go_enter Try.func73, Try.ntmps73
  go_upto_region 1 with fail
  obtain ⟨w1, hw1⟩ : ∃ w1, (w.alloc (.cells #[.int .i64 ix, .int .i64 mx] 44)).alloc (.cells #[.int .i64 bn, .int .i64 bx] 44) = w1 := ⟨_, rfl⟩
  have h01 : New w w1 := by rw [← hw1]; exact ((Upd.refl _ _).alloc _).alloc _
  have k0 : w1.cell? ⟨w.heap.size, 0, none⟩ = some (.int .i64 ix) := by rw [← hw1]; simp
  have k1 : w1.cell? ⟨w.heap.size, 1, none⟩ = some (.int .i64 mx) := by rw [← hw1]; simp
  have k2 : w1.cell? ⟨w.heap.size + 1, 0, none⟩ = some (.int .i64 bn) := by rw [← hw1]; simp
  have k3 : w1.cell? ⟨w.heap.size + 1, 1, none⟩ = some (.int .i64 bx) := by rw [← hw1]; simp
  rw [hw1]
  have K0 := hid k0
  have K1 := hid k1
  have K2 := hid k2
  have K3 := hid k3
  clear k0 k1 k2 k3 hw1
  have hn : New w1 w1.drew := (Upd.refl _ _).drew
  go_cut [9] (fun p wx => ∃ g, p = .pointer (some ⟨g, 0, none⟩) ∧ New w wx ∧ wx.cell? ⟨g, 0, none⟩ = some (.int .i64 B) ∧ wx.cell? ⟨g, 1, none⟩ = some (.int .i64 M))
  case first =>
    refine wp_region_noPanic ?_
    refine wp_region_held_drew (S := (New w1)) (by kernel_rfl) (by first | exact hn | exact (Upd.refl _ _).drew | exact Upd.drew (by assumption)) (fun hn => ?_)
    refine wpAnyH_take (i := 0) (oi := { dst := some 10, op := Op.load 44 (Operand.tmp 4), type := 44, pos := "ref.go:62", after := #[], guard := none }) (v := ?v5x1) rfl (by kernel_rfl) (by kernel_rfl) (by kernel_rfl) (fun _ _ _ h => h) (Or.inl ⟨by rfl, ?y5x1⟩) hn ?r5x1
    case y5x1 => (intro wS hS; have c0 := hS.cell K0.out (fun h => h); have c1 := hS.cell K1.out (fun h => h); (try go_simp); (try with_reducible rfl))
    try simp only [Act.put, List.setIfInBounds_toArray, List.set_cons_zero, List.set_cons_succ]
    refine wpAnyH_take (i := 1) (oi := { dst := some 11, op := Op.move (Operand.tmp 3), type := 3, pos := "ref.go:62", after := #[], guard := none }) (v := ?v5x2) rfl (by kernel_rfl) (by kernel_rfl) (by kernel_rfl) (fun _ _ _ h => h) (Or.inl ⟨by rfl, ?y5x2⟩) hn ?r5x2
    case y5x2 => (intro wS hS; (try go_simp); (try with_reducible rfl))
    try simp only [Act.put, List.setIfInBounds_toArray, List.set_cons_zero, List.set_cons_succ]
    refine wpAnyH_take (i := 3) (oi := { dst := some 13, op := Op.load 44 (Operand.tmp 5), type := 44, pos := "ref.go:62", after := #[], guard := none }) (v := ?v5x3) rfl (by kernel_rfl) (by kernel_rfl) (by kernel_rfl) (fun _ _ _ h => h) (Or.inl ⟨by rfl, ?y5x3⟩) hn ?r5x3
    case y5x3 => (intro wS hS; have c2 := hS.cell K2.out (fun h => h); have c3 := hS.cell K3.out (fun h => h); (try go_simp); (try with_reducible rfl))
    try simp only [Act.put, List.setIfInBounds_toArray, List.set_cons_zero, List.set_cons_succ]
    refine wpAnyH_ready (rs := [2, 5]) (by kernel_rfl) (by simp) ?_
    refine AllReadyH.cons (o := { dst := some 12, op := Op.call { callee := Callee.value (Operand.func 78), args := #[Operand.tmp 10, Operand.tmp 11], argTypes := #[44, 3] }, type := 44, pos := "ref.go:62", after := #[{ on := 0, ground := Ground.data }, { on := 1, ground := Ground.data }], guard := none }) rfl (fun K hK => ?_) ?_
    · skip
      go_simp
      refine (HT.out _).mono ?_
      rintro e wa ⟨rfl, hna⟩
      go_wp2_with fail
      have hn := New.trans hn hna
      have hq := hn
      refine hK.out _ _ (by first | exact hn | exact Upd.alloc hn _ | (exact Upd.alloc hq _) | (exact Upd.setCell (Upd.setCell hn (.inl (Nat.le_refl _)) _) (.inl (Nat.le_refl _)) _) | (exact Upd.setCell (Upd.setCell hn (.inl hq.size) _) (.inl hq.size) _)) (fun hn => ?_)
      clear hK K
      try simp only [Act.put, List.setIfInBounds_toArray, List.set_cons_zero, List.set_cons_succ]
      refine wpAnyH_ready (rs := [4, 5]) (by kernel_rfl) (by simp) ?_
      refine AllReadyH.cons (o := { dst := some 14, op := Op.call { callee := Callee.value (Operand.func 77), args := #[Operand.tmp 12, Operand.tmp 13], argTypes := #[44, 44] }, type := 44, pos := "ref.go:62", after := #[{ on := 2, ground := Ground.data }, { on := 3, ground := Ground.data }, { on := 2, ground := Ground.chain }], guard := none }) rfl (fun K hK => ?_) ?_
      · skip
        go_simp
        refine (HA.out _).mono ?_
        rintro e wb ⟨rfl, hnb⟩
        go_wp2_with fail
        have hn := New.trans hn hnb
        have hq := hn
        refine hK.out _ _ (by first | exact hn | exact Upd.alloc hn _ | (exact Upd.alloc hq _) | (exact Upd.setCell (Upd.setCell hn (.inl (Nat.le_refl _)) _) (.inl (Nat.le_refl _)) _) | (exact Upd.setCell (Upd.setCell hn (.inl hq.size) _) (.inl hq.size) _)) (fun hn => ?_)
        clear hK K
        try simp only [Act.put, List.setIfInBounds_toArray, List.set_cons_zero, List.set_cons_succ]
        refine wpAnyH_ready (rs := [5]) (by kernel_rfl) (by simp) ?_
        refine AllReadyH.cons (o := { dst := some 9, op := Op.alloc 44, type := 0, pos := "ref.go:62", after := #[], guard := none }) rfl (fun K hK => ?_) AllReadyH.nil
        go_simp
        refine hK.out _ _ (by first | exact hn | exact Upd.alloc hn _ | (exact Upd.alloc hq _) | (exact Upd.setCell (Upd.setCell hn (.inl (Nat.le_refl _)) _) (.inl (Nat.le_refl _)) _) | (exact Upd.setCell (Upd.setCell hn (.inl hq.size) _) (.inl hq.size) _)) (fun hn => ?_)
        clear hK K
        try simp only [Act.put, List.setIfInBounds_toArray, List.set_cons_zero, List.set_cons_succ]
        refine wpAnyH_ready (rs := [6]) (by kernel_rfl) (by simp) ?_
        refine AllReadyH.cons (o := { dst := none, op := Op.store 44 (Operand.tmp 9) (Operand.tmp 14), type := 0, pos := "ref.go:62", after := #[{ on := 5, ground := Ground.data }, { on := 4, ground := Ground.data }, { on := 4, ground := Ground.chain }, { on := 0, ground := Ground.phase }, { on := 1, ground := Ground.phase }, { on := 2, ground := Ground.phase }, { on := 3, ground := Ground.phase }, { on := 4, ground := Ground.phase }, { on := 5, ground := Ground.phase }], guard := none }) rfl (fun K hK => ?_) AllReadyH.nil
        first | (have z0 := hz.c0; have z1 := hz.c1; have f0 := hz.f 0; have f1 := hz.f 1; go_simp) | go_simp
        refine hK.out _ _ (by first | exact hn | exact Upd.alloc hn _ | (exact Upd.alloc hq _) | (exact Upd.setCell (Upd.setCell hn (.inl (Nat.le_refl _)) _) (.inl (Nat.le_refl _)) _) | (exact Upd.setCell (Upd.setCell hn (.inl hq.size) _) (.inl hq.size) _)) (fun hn => ?_)
        clear hK K
        try simp only [Act.put, List.setIfInBounds_toArray, List.set_cons_zero, List.set_cons_succ]
        refine wpAnyH_done (by kernel_rfl) ?_ _
        refine NoPanic.normal ?_
        go_wp2_with fail
        go_meet
        refine ⟨_, rfl, New.trans h01 hn, ?_, ?_⟩
        · first | exact Blk.put0 hz | (simp; done)
        · first | exact Blk.put1 hz | (simp; done)
      refine AllReadyH.cons (o := { dst := some 9, op := Op.alloc 44, type := 0, pos := "ref.go:62", after := #[], guard := none }) rfl (fun K hK => ?_) AllReadyH.nil
      go_simp
      refine hK.out _ _ (by first | exact hn | exact Upd.alloc hn _ | (exact Upd.alloc hq _) | (exact Upd.setCell (Upd.setCell hn (.inl (Nat.le_refl _)) _) (.inl (Nat.le_refl _)) _) | (exact Upd.setCell (Upd.setCell hn (.inl hq.size) _) (.inl hq.size) _)) (fun hn => ?_)
      clear hK K
      try simp only [Act.put, List.setIfInBounds_toArray, List.set_cons_zero, List.set_cons_succ]
      refine wpAnyH_ready (rs := [4]) (by kernel_rfl) (by simp) ?_
      refine AllReadyH.cons (o := { dst := some 14, op := Op.call { callee := Callee.value (Operand.func 77), args := #[Operand.tmp 12, Operand.tmp 13], argTypes := #[44, 44] }, type := 44, pos := "ref.go:62", after := #[{ on := 2, ground := Ground.data }, { on := 3, ground := Ground.data }, { on := 2, ground := Ground.chain }], guard := none }) rfl (fun K hK => ?_) AllReadyH.nil
      go_simp
      refine (HA.out _).mono ?_
      rintro e wb ⟨rfl, hnb⟩
      go_wp2_with fail
      have hn := New.trans hn hnb
      first | have hz := Blk.new hz hnb | have hz := Blk.of hnb
      refine hK.out _ _ (by first | exact hn | exact Upd.alloc hn _ | (exact Upd.alloc hq _) | (exact Upd.setCell (Upd.setCell hn (.inl (Nat.le_refl _)) _) (.inl (Nat.le_refl _)) _) | (exact Upd.setCell (Upd.setCell hn (.inl hq.size) _) (.inl hq.size) _)) (fun hn => ?_)
      clear hK K
      try simp only [Act.put, List.setIfInBounds_toArray, List.set_cons_zero, List.set_cons_succ]
      refine wpAnyH_ready (rs := [6]) (by kernel_rfl) (by simp) ?_
      refine AllReadyH.cons (o := { dst := none, op := Op.store 44 (Operand.tmp 9) (Operand.tmp 14), type := 0, pos := "ref.go:62", after := #[{ on := 5, ground := Ground.data }, { on := 4, ground := Ground.data }, { on := 4, ground := Ground.chain }, { on := 0, ground := Ground.phase }, { on := 1, ground := Ground.phase }, { on := 2, ground := Ground.phase }, { on := 3, ground := Ground.phase }, { on := 4, ground := Ground.phase }, { on := 5, ground := Ground.phase }], guard := none }) rfl (fun K hK => ?_) AllReadyH.nil
      first | (have z0 := hz.c0; have z1 := hz.c1; have f0 := hz.f 0; have f1 := hz.f 1; go_simp) | go_simp
      refine hK.out _ _ (by first | exact hn | exact Upd.alloc hn _ | (exact Upd.alloc hq _) | (exact Upd.setCell (Upd.setCell hn (.inl (Nat.le_refl _)) _) (.inl (Nat.le_refl _)) _) | (exact Upd.setCell (Upd.setCell hn (.inl hq.size) _) (.inl hq.size) _)) (fun hn => ?_)
      clear hK K
      try simp only [Act.put, List.setIfInBounds_toArray, List.set_cons_zero, List.set_cons_succ]
      refine wpAnyH_done (by kernel_rfl) ?_ _
      refine NoPanic.normal ?_
      go_wp2_with fail
      go_meet
      refine ⟨_, rfl, New.trans h01 hn, ?_, ?_⟩
      · first | exact Blk.put0 hz | (simp; done)
      · first | exact Blk.put1 hz | (simp; done)
    refine AllReadyH.cons (o := { dst := some 9, op := Op.alloc 44, type := 0, pos := "ref.go:62", after := #[], guard := none }) rfl (fun K hK => ?_) AllReadyH.nil
    go_simp
    refine hK.out _ _ (by first | exact hn | exact Upd.alloc hn _ | (exact Upd.alloc hq _) | (exact Upd.setCell (Upd.setCell hn (.inl (Nat.le_refl _)) _) (.inl (Nat.le_refl _)) _) | (exact Upd.setCell (Upd.setCell hn (.inl hq.size) _) (.inl hq.size) _)) (fun hn => ?_)
    clear hK K
    try simp only [Act.put, List.setIfInBounds_toArray, List.set_cons_zero, List.set_cons_succ]
    refine wpAnyH_ready (rs := [2]) (by kernel_rfl) (by simp) ?_
    refine AllReadyH.cons (o := { dst := some 12, op := Op.call { callee := Callee.value (Operand.func 78), args := #[Operand.tmp 10, Operand.tmp 11], argTypes := #[44, 3] }, type := 44, pos := "ref.go:62", after := #[{ on := 0, ground := Ground.data }, { on := 1, ground := Ground.data }], guard := none }) rfl (fun K hK => ?_) AllReadyH.nil
    go_simp
    refine (HT.out _).mono ?_
    rintro e wa ⟨rfl, hna⟩
    go_wp2_with fail
    have hz := Blk.ofDrew hna
    have hn := New.trans hn hna
    refine hK.out _ _ (by first | exact hn | exact Upd.alloc hn _ | (exact Upd.alloc hq _) | (exact Upd.setCell (Upd.setCell hn (.inl (Nat.le_refl _)) _) (.inl (Nat.le_refl _)) _) | (exact Upd.setCell (Upd.setCell hn (.inl hq.size) _) (.inl hq.size) _)) (fun hn => ?_)
    clear hK K
    try simp only [Act.put, List.setIfInBounds_toArray, List.set_cons_zero, List.set_cons_succ]
    refine wpAnyH_ready (rs := [4]) (by kernel_rfl) (by simp) ?_
    refine AllReadyH.cons (o := { dst := some 14, op := Op.call { callee := Callee.value (Operand.func 77), args := #[Operand.tmp 12, Operand.tmp 13], argTypes := #[44, 44] }, type := 44, pos := "ref.go:62", after := #[{ on := 2, ground := Ground.data }, { on := 3, ground := Ground.data }, { on := 2, ground := Ground.chain }], guard := none }) rfl (fun K hK => ?_) AllReadyH.nil
    go_simp
    refine (HA.out _).mono ?_
    rintro e wb ⟨rfl, hnb⟩
    go_wp2_with fail
    have hn := New.trans hn hnb
    first | have hz := Blk.new hz hnb | have hz := Blk.of hnb
    refine hK.out _ _ (by first | exact hn | exact Upd.alloc hn _ | (exact Upd.alloc hq _) | (exact Upd.setCell (Upd.setCell hn (.inl (Nat.le_refl _)) _) (.inl (Nat.le_refl _)) _) | (exact Upd.setCell (Upd.setCell hn (.inl hq.size) _) (.inl hq.size) _)) (fun hn => ?_)
    clear hK K
    try simp only [Act.put, List.setIfInBounds_toArray, List.set_cons_zero, List.set_cons_succ]
    refine wpAnyH_ready (rs := [6]) (by kernel_rfl) (by simp) ?_
    refine AllReadyH.cons (o := { dst := none, op := Op.store 44 (Operand.tmp 9) (Operand.tmp 14), type := 0, pos := "ref.go:62", after := #[{ on := 5, ground := Ground.data }, { on := 4, ground := Ground.data }, { on := 4, ground := Ground.chain }, { on := 0, ground := Ground.phase }, { on := 1, ground := Ground.phase }, { on := 2, ground := Ground.phase }, { on := 3, ground := Ground.phase }, { on := 4, ground := Ground.phase }, { on := 5, ground := Ground.phase }], guard := none }) rfl (fun K hK => ?_) AllReadyH.nil
    first | (have z0 := hz.c0; have z1 := hz.c1; have f0 := hz.f 0; have f1 := hz.f 1; go_simp) | go_simp
    refine hK.out _ _ (by first | exact hn | exact Upd.alloc hn _ | (exact Upd.alloc hq _) | (exact Upd.setCell (Upd.setCell hn (.inl (Nat.le_refl _)) _) (.inl (Nat.le_refl _)) _) | (exact Upd.setCell (Upd.setCell hn (.inl hq.size) _) (.inl hq.size) _)) (fun hn => ?_)
    clear hK K
    try simp only [Act.put, List.setIfInBounds_toArray, List.set_cons_zero, List.set_cons_succ]
    refine wpAnyH_done (by kernel_rfl) ?_ _
    refine NoPanic.normal ?_
    go_wp2_with fail
    go_meet
    refine ⟨_, rfl, New.trans h01 hn, ?_, ?_⟩
    · first | exact Blk.put0 hz | (simp; done)
    · first | exact Blk.put1 hz | (simp; done)
  case rest =>
    obtain ⟨g, rfl, hw, hg0, hg1⟩ := hcut
    have hg2 : (wc.alloc (.cells #[.int .i64 B, .int .i64 M] 44)).cell? ⟨g, 1, none⟩ = some (.int .i64 M) := ((Upd.refl (fun _ => False) wc).alloc _).cell hg1 (fun h => h)
    obtain ⟨c, hh⟩ : ∃ c, has B M r = c := ⟨_, rfl⟩
    rw [hh] at HH HM
    clear hh hn
    cases c with
    | false =>
      have HV : Hid (makes ix mx bn bx r n = false) := by show _ = _; rw [HM.out]; rfl
      go_wp2_with (go_at_call 67; refine (HH.out _).mono ?_; rintro e w' ⟨rfl, rfl⟩)
      go_ret
      exact ⟨by rw [HV.out]; rfl, hw.alloc _⟩
    | true =>
      by_cases q1 : r < 1099511627776
      · have HV : Hid (makes ix mx bn bx r n = true) := by show _ = _; rw [HM.out, decide_eq_true q1]; rfl
        go_wp2_with (go_at_call 67; refine (HH.out _).mono ?_; rintro e w' ⟨rfl, rfl⟩)
        go_ret
        exact ⟨by rw [HV.out]; rfl, hw.alloc _⟩
      · have HV : Hid (makes ix mx bn bx r n = decide (1099511627776 ≤ M)) := by show _ = _; rw [HM.out, decide_eq_false q1]; simp
        go_wp2_with (go_at_call 67; refine (HH.out _).mono ?_; rintro e w' ⟨rfl, rfl⟩)
        go_ret
        refine ⟨?_, hw.alloc _⟩
        rw [HV.out]
        first | rfl | (show Ending.returned (Value.bool (decide (r < 1099511627776) || decide (1099511627776 ≤ M))) = _; rw [decide_eq_false (by omega : ¬ r < 1099511627776)]; rfl)
end Go.Proofs.Ytkfohickmdkplaa
