/-
  What the laws of spans call besides: Own, awake.
-/
import Derived.Test.YtkfohickmdkplaaJ17
import Derived.Test.YtkfohickmdkplaaJ11
namespace Go.Proofs.Ytkfohickmdkplaa
open Go.RowKit Go.Proofs.Own Go.Proofs.Span
set_option maxRecDepth 100000
set_option maxHeartbeats 800000

theorem own_any (mn mx : Int) (w : World) :
    Calls Try.prog 24 #[.agg #[.int .i64 mn, .int .i64 mx]] w fun e w' => e = .returned (.agg #[.int .i64 mn, .int .i64 mx]) ∧ New w w' := by
  go_enter Try.func24, Try.ntmps24
  go_wp2_with fail
  refine ret_agg rfl Try.underlying68 rfl (w.heap.size + 1) #[.int .i64 mn, .int .i64 mx] 68 (by kernel_rfl) rfl rfl ?_ ?_
  · repeat (first | (refine hp_new ?_; simp; done) | (refine hp_old ?_ ?_; · (simp <;> omega)))
  · exact ⟨rfl, by repeat (first | exact Upd.refl _ _ | apply Upd.alloc)⟩

theorem RdP.one (w : World) (a b : Nat) (t : TypeId) : RdP (w.alloc (.cells #[.int .u64 a, .int .u64 b] t)) (.slice (some ⟨w.heap.size, 0, none⟩) 1 1) [(a, b)] := by
  refine ⟨_, _, rfl, Nat.le_refl _, (fun h => by cases h), fun _ => ⟨_, _, rfl, fun i hi => ?_⟩⟩
  have : i = 0 := by simp at hi; exact hi
  subst this
  have hb : Blk (w.alloc (.cells #[.int .u64 a, .int .u64 b] t)) w.heap.size (.int .u64 a) (.int .u64 b) t := hp_new rfl
  exact ⟨hb.c0, hb.c1⟩

theorem look1 : ([(300, 310)].any fun x : Nat × Nat => Span.look x.1 x.2 44 7 1 32) = true := by decide +kernel
theorem look2 : ([(300, 310)].any fun x : Nat × Nat => Span.look x.1 x.2 0 7 1 32) = false := by decide +kernel
theorem counts1 : counts 1 5 0 0 7 = (2, 7) := by decide +kernel

theorem bd1 : ∀ i (h : i < [((300 : Nat), (310 : Nat))].length), ([((300 : Nat), (310 : Nat))][i]).1 < 18446744073709551616 ∧ ([((300 : Nat), (310 : Nat))][i]).2 < 18446744073709551616 := by
  intro i h
  match i, h with
  | 0, _ => exact ⟨(by decide : (300 : Nat) < 18446744073709551616), (by decide : (310 : Nat) < 18446744073709551616)⟩
theorem fits1_any (v : Value) (w : World) (h : RdP w v [(300, 310)]) :
    Calls Try.prog 48 #[v, .int .u64 44, .int .i64 7, .int .i64 1, .int .i64 32] w fun e w' => e = .returned (.bool true) ∧ New w w' := by
  have hc := Fits_any v [(300, 310)] 44 7 1 32 w h (by decide) (by decide) (by decide) (by decide) (by decide) bd1
  rw [look1] at hc
  exact hc
theorem fits2_any (v : Value) (w : World) (h : RdP w v [(300, 310)]) :
    Calls Try.prog 48 #[v, .int .u64 0, .int .i64 7, .int .i64 1, .int .i64 32] w fun e w' => e = .returned (.bool false) ∧ New w w' := by
  have hc := Fits_any v [(300, 310)] 0 7 1 32 w h (by decide) (by decide) (by decide) (by decide) (by decide) bd1
  rw [look2] at hc
  exact hc

end Go.Proofs.Ytkfohickmdkplaa
