/-
  The walks of ops: Shape; what both say of an op; spans behind.
-/
import Derived.Test.YtnngibflnnmioaaOpS
namespace Go.Proofs.Ytnngibflnnmioaa
open Go.RowKit Go.Proofs.Own
set_option maxRecDepth 100000
set_option maxHeartbeats 4000000

def shapeV (p c : Int) : Int × Int :=
  if 255 < c then (-1, 0) else if p = 0 then (rplainV c, 0) else if p = 252 then (rmiscV c, 0) else if p = 253 then rvectorV c else (-1, 0)

theorem Shape_any (p c : Int) (w : World) (c0 : 0 ≤ c) (c1 : c < 4294967296) : Calls Try.prog 64 #[.int .u8 p, .int .u32 c] w (VecP (shapeV p c) w) := by
  unfold shapeV
  by_cases h : 255 < c
  · rw [if_pos h]
    go_enter Try.func64, Try.ntmps64
    go_wp2_with fail
    go_ret2
    exact ⟨rfl, Upd.refl _ _⟩
  · rw [if_neg h]
    have h' : decide (255 < c) = false := decide_eq_false h
    by_cases h1 : p = 0
    · subst h1
      rw [if_pos rfl]
      have HP := hid (fun w => rplain_any c w c0 (by omega))
      go_enter Try.func64, Try.ntmps64
      go_wp2_with fail
      refine (HP.out _).mono ?_
      rintro e w' ⟨rfl, rfl⟩
      go_wp2_with fail
      go_ret2
      exact ⟨rfl, Upd.refl _ _⟩
    · rw [if_neg h1]
      have e1 : (p == 0) = false := beq_eq_false_iff_ne.mpr h1
      by_cases h2 : p = 252
      · subst h2
        rw [if_pos rfl]
        have HP := hid (fun w => rmisc_any c w c0 (by omega))
        clear e1 h1
        go_enter Try.func64, Try.ntmps64
        go_wp2_with fail
        refine (HP.out _).mono ?_
        rintro e w' ⟨rfl, rfl⟩
        go_wp2_with fail
        go_ret2
        exact ⟨rfl, Upd.refl _ _⟩
      · rw [if_neg h2]
        have e2 : (p == 252) = false := beq_eq_false_iff_ne.mpr h2
        by_cases h3 : p = 253
        · subst h3
          rw [if_pos rfl]
          have HP := hid (fun w => rvector_any c w c0 (by omega))
          clear e1 h1 e2 h2
          generalize rvectorV c = r at *
          go_enter Try.func64, Try.ntmps64
          go_wp2_with fail
          refine (HP.out _).mono ?_
          rintro e w' ⟨rfl, hn⟩
          go_wp2_with fail
          go_ret2
          exact ⟨rfl, hn⟩
        · rw [if_neg h3]
          have e3 : (p == 253) = false := beq_eq_false_iff_ne.mpr h3
          clear h1 h2 h3
          go_enter Try.func64, Try.ntmps64
          go_wp2_with fail
          go_ret2
          exact ⟨rfl, Upd.refl _ _⟩

def Agree (f : Int × Int × Bool) (r : Int × Int) : Prop := f.2.2 = decide (0 ≤ r.1) ∧ (if f.2.2 = true then f.1 = r.1 ∧ f.2.1 = r.2 else f.1 = 0 ∧ f.2.1 = 0)
instance (f : Int × Int × Bool) (r : Int × Int) : Decidable (Agree f r) := by unfold Agree; infer_instance
theorem agree_low : ∀ c : Fin 256, Agree (findV 0 c.val) (shapeV 0 c.val) ∧ Agree (findV 252 c.val) (shapeV 252 c.val) ∧ Agree (findV 253 c.val) (shapeV 253 c.val) := by decide +kernel
theorem find_shape (p c : Int) (c0 : 0 ≤ c) : Agree (findV p c) (shapeV p c) := by
  by_cases h : 255 < c
  · have e : shapeV p c = (-1, 0) := if_pos h
    have e1 : plainV c = -1 := by unfold plainV; repeat (first | rw [if_neg (by omega)])
    have e2 : miscV c = -1 := by unfold miscV; repeat (first | rw [if_neg (by omega)])
    have e3 : vectorV c = (-1, 0) := by
      unfold vectorV
      rw [if_neg (by omega), if_neg (by omega), if_neg (by omega), if_neg (fun h => by rcases h with h | h | ⟨h, _⟩ <;> omega)]
    have e4 : al p c = (0, false) := by unfold al; repeat (first | rw [if_neg (by omega)])
    have e5 : findV p c = (0, 0, false) := by
      unfold findV rowOr alV
      rw [e1, e2, e3, e4]
      simp
    rw [e, e5]
    decide
  · obtain ⟨k, rfl⟩ : ∃ k : Nat, c = k := ⟨c.toNat, by omega⟩
    have hk := agree_low ⟨k, by omega⟩
    by_cases h1 : p = 0
    · subst h1; exact hk.1
    · by_cases h2 : p = 252
      · subst h2; exact hk.2.1
      · by_cases h3 : p = 253
        · subst h3; exact hk.2.2
        · have e1 : findV p k = (0, 0, false) := by unfold findV; rw [if_neg h1, if_neg h2, if_neg h3]
          have e2 : shapeV p k = (-1, 0) := by unfold shapeV; rw [if_neg h, if_neg h1, if_neg h2, if_neg h3]
          rw [e1, e2]
          decide

def mostT : List Int := [0, 5, 5, 10, 1099511627776, 10, 1, 2, 6, 5, 10, 4, 8, 16, 16, 1, 11, 1, 1099511627776]
def leastT : List Int := [0, 1, 1, 2, 2, 2, 1, 2, 2, 1, 1, 4, 8, 16, 16, 1, 3, 1, 1]
def spanV (s : Int) : Int × Int := if s < 0 ∨ 18 < s then (0, 0) else (leastT.getD s.toNat 0, mostT.getD s.toNat 0)
end Go.Proofs.Ytnngibflnnmioaa
