/-
  The walks of spans: the program's.
-/
import Derived.Test.YtlmimlnflcfccaaChecked
import Derived.Test.YtlmimlnflcfccaaAgg
import Derived.Test.YtlmimlnflcfccaaSpn
import Derived.Deep.RegionHeld3
import Derived.Deep.DeepCutAuto
namespace Go.Proofs.Ytlmimlnflcfccaa
open Go.RowKit Go.Proofs.Own Go.Proofs.Span
set_option maxRecDepth 100000
set_option maxHeartbeats 2000000

theorem endless_any (mn mx : Int) (w : World) :
    Calls Try.prog 64 #[.agg #[.int .i64 mn, .int .i64 mx]] w fun e w' => e = .returned (.bool (decide (1099511627776 ≤ mx))) ∧ w.alloc (.cells #[.int .i64 mn, .int .i64 mx] 48) = w' := by
  go_enter Try.func64, Try.ntmps64
  go_wp2_with fail
  go_ret
  exact ⟨rfl, rfl⟩

theorem has_any (mn mx n : Int) (w : World) :
    Calls Try.prog 30 #[.agg #[.int .i64 mn, .int .i64 mx], .int .i64 n] w fun e w' => e = .returned (.bool (has mn mx n)) ∧ New w w' := by
  have HE := hid (endless_any mn mx)
  have HV : Hid (has mn mx n = (decide (mn ≤ n) && (decide (1099511627776 ≤ mx) || decide (n ≤ mx)))) := by show _ = _; rfl
  by_cases h1 : mn ≤ n
  · by_cases h2 : (1099511627776 : Int) ≤ mx
    · have HW : Hid ((decide (mn ≤ n) && (decide (1099511627776 ≤ mx) || decide (n ≤ mx))) = true) := by show _ = _; simp [h1, h2]
      go_enter Try.func30, Try.ntmps30
      go_wp2_with (refine (HE.out _).mono ?_; rintro e w' ⟨rfl, rfl⟩)
      go_ret
      rw [HV.out, HW.out]
      exact ⟨rfl, ((Upd.refl _ _).alloc _).alloc _⟩
    · have HW : Hid ((decide (mn ≤ n) && (decide (1099511627776 ≤ mx) || decide (n ≤ mx))) = decide (n ≤ mx)) := by show _ = _; simp [h1, h2]
      have H2 := hid h2
      go_enter Try.func30, Try.ntmps30
      go_wp2_with (refine (HE.out _).mono ?_; rintro e w' ⟨rfl, rfl⟩)
      go_ret
      refine ⟨?_, ((Upd.refl _ _).alloc _).alloc _⟩
      rw [HV.out, HW.out]
      show Ending.returned (Value.bool (decide (1099511627776 ≤ mx) || decide (n ≤ mx))) = _
      rw [decide_eq_false (by have := H2.out; omega)]
      rfl
  · have HW : Hid ((decide (mn ≤ n) && (decide (1099511627776 ≤ mx) || decide (n ≤ mx))) = false) := by show _ = _; simp [h1]
    go_enter Try.func30, Try.ntmps30
    go_wp2_with fail
    go_ret
    rw [HV.out, HW.out]
    exact ⟨rfl, (Upd.refl _ _).alloc _⟩

theorem and_any (an ax bn bx : Int) (w : World) (h1 : 0 ≤ an) (h2 : an ≤ 1000000000000000) (h3 : 0 ≤ bn) (h4 : bn ≤ 1000000000000000) (h5 : 0 ≤ ax) (h6 : 0 ≤ bx) :
    Calls Try.prog 32 #[.agg #[.int .i64 an, .int .i64 ax], .agg #[.int .i64 bn, .int .i64 bx]] w fun e w' =>
      e = .returned (.agg #[.int .i64 (an + bn), .int .i64 (most ax bx)]) ∧ New w w' := by
  have HE := hid endless_any
  by_cases ha : (1099511627776 : Int) ≤ ax
  · have HW : Hid (most ax bx = 1099511627776) := by show _ = _; unfold most; rw [if_pos (by omega)]
    go_enter Try.func32, Try.ntmps32
    go_wp2_with (refine (HE.out _ _ _).mono ?_; rintro e w' ⟨rfl, rfl⟩)
    refine ret_agg rfl Try.underlying48 rfl (w.heap.size + 1 + 1) #[.int .i64 (an + bn), .int .i64 1099511627776] 48 (by kernel_rfl) rfl rfl ?_ ?_
    · repeat (first | (refine hp_new ?_; simp; done) | (refine hp_old ?_ ?_; · (simp <;> omega)))
    · rw [HW.out]
      exact ⟨rfl, by repeat (first | exact Upd.refl _ _ | apply Upd.alloc)⟩
  · have hd1 : decide ((1099511627776 : Int) ≤ ax) = false := decide_eq_false ha
    by_cases hb : (1099511627776 : Int) ≤ bx
    · have HW : Hid (most ax bx = 1099511627776) := by show _ = _; unfold most; rw [if_pos (by omega)]
      have hd2 : decide ((1099511627776 : Int) ≤ bx) = true := decide_eq_true hb
      go_enter Try.func32, Try.ntmps32
      go_wp2_with (refine (HE.out _ _ _).mono ?_; rintro e w' ⟨rfl, rfl⟩)
      refine ret_agg rfl Try.underlying48 rfl (w.heap.size + 1 + 1) #[.int .i64 (an + bn), .int .i64 1099511627776] 48 (by kernel_rfl) rfl rfl ?_ ?_
      · repeat (first | (refine hp_new ?_; simp; done) | (refine hp_old ?_ ?_; · (simp <;> omega)))
      · rw [HW.out]
        exact ⟨rfl, by repeat (first | exact Upd.refl _ _ | apply Upd.alloc)⟩
    · have hd2 : decide ((1099511627776 : Int) ≤ bx) = false := decide_eq_false hb
      by_cases hs : ax + bx ≤ 1099511627776
      · have HW : Hid (most ax bx = ax + bx) := by show _ = _; unfold most; rw [if_neg (by omega)]
        go_enter Try.func32, Try.ntmps32
        go_wp2_with (refine (HE.out _ _ _).mono ?_; rintro e w' ⟨rfl, rfl⟩)
        refine ret_agg rfl Try.underlying48 rfl (w.heap.size + 1 + 1) #[.int .i64 (an + bn), .int .i64 (ax + bx)] 48 (by kernel_rfl) rfl rfl ?_ ?_
        · repeat (first | (refine hp_new ?_; simp; done) | (refine hp_old ?_ ?_; · (simp <;> omega)))
        · rw [HW.out]
          exact ⟨rfl, by repeat (first | exact Upd.refl _ _ | apply Upd.alloc)⟩
      · have HW : Hid (most ax bx = 1099511627776) := by show _ = _; unfold most; rw [if_pos (by omega)]
        go_enter Try.func32, Try.ntmps32
        go_wp2_with (refine (HE.out _ _ _).mono ?_; rintro e w' ⟨rfl, rfl⟩)
        refine ret_agg rfl Try.underlying48 rfl (w.heap.size + 1 + 1) #[.int .i64 (an + bn), .int .i64 1099511627776] 48 (by kernel_rfl) rfl rfl ?_ ?_
        · repeat (first | (refine hp_new ?_; simp; done) | (refine hp_old ?_ ?_; · (simp <;> omega)))
        · rw [HW.out]
          exact ⟨rfl, by repeat (first | exact Upd.refl _ _ | apply Upd.alloc)⟩

/-- a count, several times -/
def tm (n a : Int) : Int := if n ≤ 0 then 0 else mul n a

theorem times_any (a n : Int) (w : World) (h1 : 0 ≤ a) (h2 : a ≤ 9223372036854775807) (n1 : 1 ≤ n) (n2 : n ≤ 9223372036854775807) :
    Calls Try.prog 65 #[.int .i64 a, .int .i64 n] w fun e w' => e = .returned (.int .i64 (mul n a)) ∧ w = w' := by
  by_cases h0 : (0 : Int) < a
  · have hq : (1099511627776 : Int) / a < n ↔ 1099511627776 < n * a := Int.ediv_lt_iff_lt_mul h0
    by_cases hlt : (1099511627776 : Int) / a < n
    · have HW : Hid (mul n a = 1099511627776) := by show _ = _; unfold mul; rw [if_pos (hq.mp hlt)]
      clear hq
      go_enter Try.func65, Try.ntmps65
      go_wp2_with fail
      go_ret
      exact ⟨by rw [HW.out]; rfl, rfl⟩
    · have HW : Hid (mul n a = a * n) := by show _ = _; unfold mul; rw [if_neg (fun h => hlt (hq.mpr h)), Int.mul_comm]
      have hm : a * n ≤ 1099511627776 := by rw [Int.mul_comm]; have := fun h => hlt (hq.mpr h); omega
      have hm0 : 0 ≤ a * n := Int.mul_nonneg h1 (by omega)
      have hw : wrap64 (a * n) = a * n := by unfold wrap64; omega
      clear hq
      go_enter Try.func65, Try.ntmps65
      go_wp2_with fail
      go_ret
      exact ⟨by rw [HW.out]; rfl, rfl⟩
  · have hz : a = 0 := by omega
    subst hz
    have HW : Hid (mul n 0 = 0) := by show _ = _; unfold mul; simp
    go_enter Try.func65, Try.ntmps65
    go_wp2_with fail
    go_ret
    exact ⟨by rw [HW.out]; rfl, rfl⟩
theorem mul_top (n a : Int) (hn : 1 ≤ n) (ha : 1099511627776 ≤ a) : mul n a = 1099511627776 := by
  have : 1 * a ≤ n * a := Int.mul_le_mul_of_nonneg_right hn (by omega)
  unfold mul; split <;> omega

theorem Times_any (mn mx n : Int) (w : World) (h1 : 0 ≤ mn) (h2 : mn ≤ 9223372036854775807) (h3 : 0 ≤ mx) (h4 : mx ≤ 9223372036854775807) (n2 : n ≤ 9223372036854775807) :
    Calls Try.prog 34 #[.agg #[.int .i64 mn, .int .i64 mx], .int .i64 n] w fun e w' => e = .returned (.agg #[.int .i64 (tm n mn), .int .i64 (tm n mx)]) ∧ New w w' := by
  by_cases hn : n ≤ 0
  · have HW : Hid (∀ a, tm n a = 0) := fun a => if_pos hn
    go_enter Try.func34, Try.ntmps34
    go_wp2_with fail
    refine ret_agg rfl Try.underlying48 rfl (w.heap.size + 1) #[.int .i64 0, .int .i64 0] 48 (by kernel_rfl) rfl rfl ?_ ?_
    · repeat (first | (refine hp_new ?_; simp; done) | (refine hp_old ?_ ?_; · (simp <;> omega)))
    · rw [HW.out, HW.out]
      exact ⟨rfl, by repeat (first | exact Upd.refl _ _ | apply Upd.alloc)⟩
  · have HW : Hid (∀ a, tm n a = mul n a) := fun a => if_neg hn
    have H1 := hid (fun w => times_any mn n w h1 h2 (by omega) n2)
    have H2 := hid (fun w => times_any mx n w h3 h4 (by omega) n2)
    go_enter Try.func34, Try.ntmps34
    go_wp2_with fail
    have hn0 : New w ((w.alloc (.cells #[.int .i64 mn, .int .i64 mx] 48)).alloc (.cells #[.int .i64 0, .int .i64 0] 48)).drew ∧ ((w.alloc (.cells #[.int .i64 mn, .int .i64 mx] 48)).alloc (.cells #[.int .i64 0, .int .i64 0] 48)).drew.cell? ⟨w.heap.size, 0, none⟩ = some (.int .i64 mn) ∧ ((w.alloc (.cells #[.int .i64 mn, .int .i64 mx] 48)).alloc (.cells #[.int .i64 0, .int .i64 0] 48)).drew.cell? ⟨w.heap.size, 1, none⟩ = some (.int .i64 mx) :=
      ⟨(((Upd.refl _ _).alloc _).alloc _).drew, by simp, by simp⟩
    have hn := hn0
    refine wp_region_noPanic ?_
    refine wp_region_held_drew (S := (fun w' => New w w' ∧ w'.cell? ⟨w.heap.size, 0, none⟩ = some (.int .i64 mn) ∧ w'.cell? ⟨w.heap.size, 1, none⟩ = some (.int .i64 mx))) (by kernel_rfl) (by first | exact hn | exact (Upd.refl _ _).drew | exact Upd.drew (by assumption)) (fun hn => ?_)
    refine wpAnyH_take (i := 0) (oi := { dst := some 8, op := Op.fieldAddr 48 (Operand.tmp 2) 0, type := 0, pos := "span.go:39", after := #[], guard := none }) (v := ?v28x1) rfl (by kernel_rfl) (by kernel_rfl) (by kernel_rfl) (fun _ _ _ h => h) (Or.inl ⟨by rfl, ?y28x1⟩) hn ?r28x1
    case y28x1 => (intro wS hS; (try go_simp); (try with_reducible rfl))
    try simp only [Act.put, List.setIfInBounds_toArray, List.set_cons_zero, List.set_cons_succ]
    refine wpAnyH_take (i := 1) (oi := { dst := some 9, op := Op.load 3 (Operand.tmp 8), type := 3, pos := "span.go:39", after := #[{ on := 0, ground := Ground.data }], guard := none }) (v := ?v28x2) rfl (by kernel_rfl) (by kernel_rfl) (by kernel_rfl) (fun _ _ _ h => h) (Or.inl ⟨by rfl, ?y28x2⟩) hn ?r28x2
    case y28x2 => (intro wS hS; obtain ⟨_, c0, c1⟩ := hS; (try go_simp); (try with_reducible rfl))
    try simp only [Act.put, List.setIfInBounds_toArray, List.set_cons_zero, List.set_cons_succ]
    refine wpAnyH_take (i := 2) (oi := { dst := some 10, op := Op.move (Operand.tmp 1), type := 3, pos := "span.go:39", after := #[], guard := none }) (v := ?v28x3) rfl (by kernel_rfl) (by kernel_rfl) (by kernel_rfl) (fun _ _ _ h => h) (Or.inl ⟨by rfl, ?y28x3⟩) hn ?r28x3
    case y28x3 => (intro wS hS; (try go_simp); (try with_reducible rfl))
    try simp only [Act.put, List.setIfInBounds_toArray, List.set_cons_zero, List.set_cons_succ]
    refine wpAnyH_take (i := 4) (oi := { dst := some 12, op := Op.fieldAddr 48 (Operand.tmp 2) 1, type := 0, pos := "span.go:39", after := #[], guard := none }) (v := ?v28x4) rfl (by kernel_rfl) (by kernel_rfl) (by kernel_rfl) (fun _ _ _ h => h) (Or.inl ⟨by rfl, ?y28x4⟩) hn ?r28x4
    case y28x4 => (intro wS hS; (try go_simp); (try with_reducible rfl))
    try simp only [Act.put, List.setIfInBounds_toArray, List.set_cons_zero, List.set_cons_succ]
    refine wpAnyH_take (i := 5) (oi := { dst := some 13, op := Op.load 3 (Operand.tmp 12), type := 3, pos := "span.go:39", after := #[{ on := 4, ground := Ground.data }], guard := none }) (v := ?v28x5) rfl (by kernel_rfl) (by kernel_rfl) (by kernel_rfl) (fun _ _ _ h => h) (Or.inl ⟨by rfl, ?y28x5⟩) hn ?r28x5
    case y28x5 => (intro wS hS; obtain ⟨_, c0, c1⟩ := hS; (try go_simp); (try with_reducible rfl))
    try simp only [Act.put, List.setIfInBounds_toArray, List.set_cons_zero, List.set_cons_succ]
    refine wpAnyH_take (i := 6) (oi := { dst := some 14, op := Op.move (Operand.tmp 1), type := 3, pos := "span.go:39", after := #[], guard := none }) (v := ?v28x6) rfl (by kernel_rfl) (by kernel_rfl) (by kernel_rfl) (fun _ _ _ h => h) (Or.inl ⟨by rfl, ?y28x6⟩) hn ?r28x6
    case y28x6 => (intro wS hS; (try go_simp); (try with_reducible rfl))
    try simp only [Act.put, List.setIfInBounds_toArray, List.set_cons_zero, List.set_cons_succ]
    refine wpAnyH_ready (rs := [3]) (by kernel_rfl) (by simp) ?_
    refine AllReadyH.cons (o := { dst := some 11, op := Op.call { callee := Callee.value (Operand.func 65), args := #[Operand.tmp 9, Operand.tmp 10], argTypes := #[3, 3] }, type := 3, pos := "span.go:39", after := #[{ on := 1, ground := Ground.data }, { on := 2, ground := Ground.data }], guard := none }) rfl (fun K hK => ?_) AllReadyH.nil
    go_simp
    refine (H1.out _).mono ?_
    rintro e wa ⟨rfl, rfl⟩
    go_wp2_with fail
    refine hK.out _ _ (by first | exact hn | exact Upd.alloc hn _ | (exact ⟨(((Upd.refl _ _).alloc _).alloc _).drew, by simp, by simp⟩)) (fun hn => ?_)
    clear hK K
    try simp only [Act.put, List.setIfInBounds_toArray, List.set_cons_zero, List.set_cons_succ]
    refine wpAnyH_ready (rs := [7]) (by kernel_rfl) (by simp) ?_
    refine AllReadyH.cons (o := { dst := some 15, op := Op.call { callee := Callee.value (Operand.func 65), args := #[Operand.tmp 13, Operand.tmp 14], argTypes := #[3, 3] }, type := 3, pos := "span.go:39", after := #[{ on := 5, ground := Ground.data }, { on := 6, ground := Ground.data }, { on := 3, ground := Ground.chain }], guard := none }) rfl (fun K hK => ?_) AllReadyH.nil
    go_simp
    refine (H2.out _).mono ?_
    rintro e wa ⟨rfl, rfl⟩
    go_wp2_with fail
    refine hK.out _ _ (by first | exact hn | exact Upd.alloc hn _ | (exact ⟨(((Upd.refl _ _).alloc _).alloc _).drew, by simp, by simp⟩)) (fun hn => ?_)
    clear hK K
    try simp only [Act.put, List.setIfInBounds_toArray, List.set_cons_zero, List.set_cons_succ]
    refine wpAnyH_take (i := 8) (oi := { dst := some 16, op := Op.build 48 #[(0, Operand.tmp 11), (1, Operand.tmp 15)], type := 48, pos := "span.go:39", after := #[{ on := 3, ground := Ground.data }, { on := 7, ground := Ground.data }], guard := none }) (v := ?v28x7) rfl (by kernel_rfl) (by kernel_rfl) (by kernel_rfl) (fun _ _ _ h => h) (Or.inl ⟨by rfl, ?y28x7⟩) hn ?r28x7
    case y28x7 => (intro wS hS; (try go_simp); (try with_reducible rfl))
    try simp only [Act.put, List.setIfInBounds_toArray, List.set_cons_zero, List.set_cons_succ]
    refine wpAnyH_ready (rs := [9]) (by kernel_rfl) (by simp) ?_
    refine AllReadyH.cons (o := { dst := none, op := Op.store 48 (Operand.tmp 4) (Operand.tmp 16), type := 0, pos := "span.go:39", after := #[{ on := 8, ground := Ground.data }, { on := 7, ground := Ground.chain }, { on := 0, ground := Ground.phase }, { on := 1, ground := Ground.phase }, { on := 2, ground := Ground.phase }, { on := 3, ground := Ground.phase }, { on := 4, ground := Ground.phase }, { on := 5, ground := Ground.phase }, { on := 6, ground := Ground.phase }, { on := 7, ground := Ground.phase }, { on := 8, ground := Ground.phase }], guard := none }) rfl (fun K hK => ?_) AllReadyH.nil
    go_simp
    refine hK.out _ _ (by first | exact hn | exact Upd.alloc hn _ | (exact ⟨(((Upd.refl _ _).alloc _).alloc _).drew, by simp, by simp⟩)) (fun hn => ?_)
    clear hK K
    try simp only [Act.put, List.setIfInBounds_toArray, List.set_cons_zero, List.set_cons_succ]
    refine wpAnyH_done (by kernel_rfl) ?_ _
    refine NoPanic.normal ?_
    go_wp2_with fail
    refine ret_agg rfl Try.underlying48 rfl (w.heap.size + 1) #[.int .i64 (mul n mn), .int .i64 (mul n mx)] 48 (by kernel_rfl) rfl rfl ?_ ?_
    · repeat (first | (refine hp_new ?_; simp; done) | (refine hp_old ?_ ?_; · (simp <;> omega)))
    · rw [HW.out, HW.out]
      exact ⟨rfl, hn.1⟩
end Go.Proofs.Ytlmimlnflcfccaa
