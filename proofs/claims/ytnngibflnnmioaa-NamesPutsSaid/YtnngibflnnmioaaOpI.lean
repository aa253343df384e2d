/-
  The walk of an op's span behind.
-/
import Derived.Test.YtnngibflnnmioaaOpT
namespace Go.Proofs.Ytnngibflnnmioaa
open Go.RowKit Go.Proofs.Own Go.Proofs.Leb
set_option maxRecDepth 100000
set_option maxHeartbeats 4000000

def SpanP (r : Int × Int) (w : World) (e : Ending) (w' : World) : Prop := e = .returned (.agg #[.int .i64 r.1, .int .i64 r.2]) ∧ New w w'

theorem spanV_at : ∀ k : Fin 19, spanV k.val = (leastT.getD k.val 0, mostT.getD k.val 0) := by decide
theorem spanV_0 : spanV 0 = (0, 0) := by unfold spanV; rw [if_neg (by omega)]; rfl
theorem spanV_1 : spanV 1 = (1, 5) := by unfold spanV; rw [if_neg (by omega)]; rfl
theorem spanV_2 : spanV 2 = (1, 5) := by unfold spanV; rw [if_neg (by omega)]; rfl
theorem spanV_3 : spanV 3 = (2, 10) := by unfold spanV; rw [if_neg (by omega)]; rfl
theorem spanV_4 : spanV 4 = (2, 1099511627776) := by unfold spanV; rw [if_neg (by omega)]; rfl
theorem spanV_5 : spanV 5 = (2, 10) := by unfold spanV; rw [if_neg (by omega)]; rfl
theorem spanV_6 : spanV 6 = (1, 1) := by unfold spanV; rw [if_neg (by omega)]; rfl
theorem spanV_7 : spanV 7 = (2, 2) := by unfold spanV; rw [if_neg (by omega)]; rfl
theorem spanV_8 : spanV 8 = (2, 6) := by unfold spanV; rw [if_neg (by omega)]; rfl
theorem spanV_9 : spanV 9 = (1, 5) := by unfold spanV; rw [if_neg (by omega)]; rfl
theorem spanV_10 : spanV 10 = (1, 10) := by unfold spanV; rw [if_neg (by omega)]; rfl
theorem spanV_11 : spanV 11 = (4, 4) := by unfold spanV; rw [if_neg (by omega)]; rfl
theorem spanV_12 : spanV 12 = (8, 8) := by unfold spanV; rw [if_neg (by omega)]; rfl
theorem spanV_13 : spanV 13 = (16, 16) := by unfold spanV; rw [if_neg (by omega)]; rfl
theorem spanV_14 : spanV 14 = (16, 16) := by unfold spanV; rw [if_neg (by omega)]; rfl
theorem spanV_15 : spanV 15 = (1, 1) := by unfold spanV; rw [if_neg (by omega)]; rfl
theorem spanV_16 : spanV 16 = (3, 11) := by unfold spanV; rw [if_neg (by omega)]; rfl
theorem spanV_17 : spanV 17 = (1, 1) := by unfold spanV; rw [if_neg (by omega)]; rfl
theorem spanV_18 : spanV 18 = (1, 1099511627776) := by unfold spanV; rw [if_neg (by omega)]; rfl
theorem infoSpan_any (s l : Int) (w : World) : Calls Try.prog 31 #[.agg #[.int .i64 s, .int .i64 l]] w (SpanP (spanV s) w) := by
  obtain ⟨r, hr⟩ : ∃ r, spanV s = r := ⟨_, rfl⟩
  rw [hr]
  have HS := hid hr
  clear hr
  go_enter Try.func31, Try.ntmps31
  go_wp2_with fail
  all_goals
    refine ret_agg rfl Try.underlying70 rfl (w.heap.size + 1) _ _ ?_ rfl rfl (hp_new (by simp)) ?_
    · kernel_rfl
    · have hv : Hid (r = spanV s) := HS.out.symm
      clear HS
      simp only [beq_iff_eq, beq_eq_false_iff_ne, ne_eq] at *
      first
        | (have hs : s = 1 := by assumption
           rw [hv.out, hs, spanV_1]
           exact ⟨rfl, ((Upd.refl _ _).alloc _).alloc _⟩)
        | (have hs : s = 2 := by assumption
           rw [hv.out, hs, spanV_2]
           exact ⟨rfl, ((Upd.refl _ _).alloc _).alloc _⟩)
        | (have hs : s = 3 := by assumption
           rw [hv.out, hs, spanV_3]
           exact ⟨rfl, ((Upd.refl _ _).alloc _).alloc _⟩)
        | (have hs : s = 4 := by assumption
           rw [hv.out, hs, spanV_4]
           exact ⟨rfl, ((Upd.refl _ _).alloc _).alloc _⟩)
        | (have hs : s = 5 := by assumption
           rw [hv.out, hs, spanV_5]
           exact ⟨rfl, ((Upd.refl _ _).alloc _).alloc _⟩)
        | (have hs : s = 6 := by assumption
           rw [hv.out, hs, spanV_6]
           exact ⟨rfl, ((Upd.refl _ _).alloc _).alloc _⟩)
        | (have hs : s = 7 := by assumption
           rw [hv.out, hs, spanV_7]
           exact ⟨rfl, ((Upd.refl _ _).alloc _).alloc _⟩)
        | (have hs : s = 8 := by assumption
           rw [hv.out, hs, spanV_8]
           exact ⟨rfl, ((Upd.refl _ _).alloc _).alloc _⟩)
        | (have hs : s = 9 := by assumption
           rw [hv.out, hs, spanV_9]
           exact ⟨rfl, ((Upd.refl _ _).alloc _).alloc _⟩)
        | (have hs : s = 10 := by assumption
           rw [hv.out, hs, spanV_10]
           exact ⟨rfl, ((Upd.refl _ _).alloc _).alloc _⟩)
        | (have hs : s = 11 := by assumption
           rw [hv.out, hs, spanV_11]
           exact ⟨rfl, ((Upd.refl _ _).alloc _).alloc _⟩)
        | (have hs : s = 12 := by assumption
           rw [hv.out, hs, spanV_12]
           exact ⟨rfl, ((Upd.refl _ _).alloc _).alloc _⟩)
        | (have hs : s = 13 := by assumption
           rw [hv.out, hs, spanV_13]
           exact ⟨rfl, ((Upd.refl _ _).alloc _).alloc _⟩)
        | (have hs : s = 14 := by assumption
           rw [hv.out, hs, spanV_14]
           exact ⟨rfl, ((Upd.refl _ _).alloc _).alloc _⟩)
        | (have hs : s = 15 := by assumption
           rw [hv.out, hs, spanV_15]
           exact ⟨rfl, ((Upd.refl _ _).alloc _).alloc _⟩)
        | (have hs : s = 16 := by assumption
           rw [hv.out, hs, spanV_16]
           exact ⟨rfl, ((Upd.refl _ _).alloc _).alloc _⟩)
        | (have hs : s = 17 := by assumption
           rw [hv.out, hs, spanV_17]
           exact ⟨rfl, ((Upd.refl _ _).alloc _).alloc _⟩)
        | (have hs : s = 18 := by assumption
           rw [hv.out, hs, spanV_18]
           exact ⟨rfl, ((Upd.refl _ _).alloc _).alloc _⟩)
        | (refine ⟨?_, ((Upd.refl _ _).alloc _).alloc _⟩
           have e : spanV s = (0, 0) := by
             by_cases h0 : s = 0
             · rw [h0, spanV_0]
             · exact if_pos (by omega)
           rw [hv.out, e])
end Go.Proofs.Ytnngibflnnmioaa
