/-
  The walks of ops: the document's answers, second part.
-/
import Derived.Test.YtnngibflnnmioaaOpR
namespace Go.Proofs.Ytnngibflnnmioaa
open Go.RowKit Go.Proofs.Own
set_option maxRecDepth 100000
set_option maxHeartbeats 4000000

def restV (c : Int) : Int × Int := if c = 92 ∨ c = 93 then (5, 0) else if c = 12 then (13, 0) else if c = 13 then (14, 0) else if c ≤ 11 then (5, 0) else (0, 0)
theorem rest_eq (c : Int) (hm : ¬ missP c) (h1 : ¬ (21 ≤ c ∧ c ≤ 34)) (h2 : ¬ (84 ≤ c ∧ c ≤ 91)) : rvectorV c = restV c := by
  unfold rvectorV restV
  rw [if_neg hm, if_neg h1, if_neg h2]
theorem rvector_rest (c : Int) (w : World) (c0 : 0 ≤ c) (c1 : c ≤ 255) (h1 : ¬ (21 ≤ c ∧ c ≤ 34)) (h2 : ¬ (84 ≤ c ∧ c ≤ 91)) : Calls Try.prog 86 #[.int .i64 c] w (VecP (rvectorV c) w) := by
  by_cases hm : missP c
  · have e : rvectorV c = (-1, 0) := if_pos hm
    rw [e]
    have HM := hid hm
    clear e hm
    go_enter Try.func86, Try.ntmps86
    go_wp2_with fail
    all_goals first
      | (go_ret2; exact ⟨rfl, Upd.refl _ _⟩)
      | (exfalso
         have hm := HM.out
         unfold missP at hm
         simp only [beq_iff_eq, beq_eq_false_iff_ne, ne_eq] at *
         omega)
  · rw [rest_eq c hm h1 h2]
    obtain ⟨s, hs⟩ : ∃ s, restV c = s := ⟨_, rfl⟩
    rw [hs]
    have HS := hid hs
    have HM := hid hm
    clear hs hm
    go_enter Try.func86, Try.ntmps86
    go_wp2_with fail
    all_goals first
      | (exfalso
         have hm := HM.out
         unfold missP at hm
         simp only [beq_iff_eq, beq_eq_false_iff_ne, ne_eq] at *
         omega)
      | (go_ret2
         refine ⟨?_, Upd.refl _ _⟩
         rw [← HS.out]
         clear HS HM
         try simp only [beq_iff_eq, beq_eq_false_iff_ne, ne_eq] at *
         unfold restV
         repeat (first | rw [if_pos (by omega)] | rw [if_neg (by omega)])
         rfl)

theorem rvector_any (c : Int) (w : World) (c0 : 0 ≤ c) (c1 : c ≤ 255) : Calls Try.prog 86 #[.int .i64 c] w (VecP (rvectorV c) w) := by
  by_cases h1 : 21 ≤ c ∧ c ≤ 34
  · exact rvector_lane c w h1.1 h1.2
  · by_cases h2 : 84 ≤ c ∧ c ≤ 91
    · exact rvector_mem c w h2.1 h2.2
    · exact rvector_rest c w c0 c1 h1 h2
end Go.Proofs.Ytnngibflnnmioaa
