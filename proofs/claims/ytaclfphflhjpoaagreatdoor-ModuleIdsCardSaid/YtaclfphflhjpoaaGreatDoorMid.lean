/-
  Which section has a part; a module that has nothing.
-/
import Derived.Test.YtaclfphflhjpoaaGreatDoorChecked
import Derived.Test.YtaclfphflhjpoaaGreatDoorBase
import Derived.Test.YtaclfphflhjpoaaGreatDoorAgg
import Derived.Test.YtaclfphflhjpoaaGreatDoorCcl
import Derived.RangeFuncNested
import Derived.RangeFuncBound
import Derived.RangeFuncCalls
import Derived.RangeFuncLeaves
import Derived.RangeFuncKeeps
import Derived.Shelf.Abstract
import Derived.Shelf.RegionOpen
import Derived.OwnWalkIn
import Derived.TacticsInMore
import Derived.LoopNIn
import Derived.LoopIn
namespace Go.Proofs.YtaclfphflhjpoaaGreatDoor
open Go.RowKit Go.Shelf Go.Proofs.Own
set_option maxRecDepth 100000
set_option maxHeartbeats 4000000

/-- by which number a section has a part -/
def idV (p : Int) : Int := if 1 ≤ p ∧ p ≤ 9 then p else if p = 10 then 12 else if p = 11 ∨ p = 12 then p - 1 else 0
theorem refId_any (p : Int) (w : World) : Calls Tryz.prog 4 #[.int .i64 p] w (fun e w' => e = .returned (.int .u8 (idV p)) ∧ w = w') := by
  by_cases h : 1 ≤ p ∧ p ≤ 12
  · have hp : p = 1 ∨ p = 2 ∨ p = 3 ∨ p = 4 ∨ p = 5 ∨ p = 6 ∨ p = 7 ∨ p = 8 ∨ p = 9 ∨ p = 10 ∨ p = 11 ∨ p = 12 := by omega
    clear h
    rcases hp with rfl | rfl | rfl | rfl | rfl | rfl | rfl | rfl | rfl | rfl | rfl | rfl
    all_goals
      go_enter Tryz.func4, Tryz.ntmps4
      go_wp2_with fail
      go_ret
      exact ⟨rfl, rfl⟩
  · have e : idV p = 0 := by
      unfold idV
      rw [if_neg (by omega), if_neg (by omega), if_neg (by omega)]
    rw [e]
    clear e
    have h1 : (p == 1) = false := by rw [beq_eq_false_iff_ne]; omega
    have h2 : (p == 2) = false := by rw [beq_eq_false_iff_ne]; omega
    have h3 : (p == 3) = false := by rw [beq_eq_false_iff_ne]; omega
    have h4 : (p == 4) = false := by rw [beq_eq_false_iff_ne]; omega
    have h5 : (p == 5) = false := by rw [beq_eq_false_iff_ne]; omega
    have h6 : (p == 6) = false := by rw [beq_eq_false_iff_ne]; omega
    have h7 : (p == 7) = false := by rw [beq_eq_false_iff_ne]; omega
    have h8 : (p == 8) = false := by rw [beq_eq_false_iff_ne]; omega
    have h9 : (p == 9) = false := by rw [beq_eq_false_iff_ne]; omega
    have h10 : (p == 10) = false := by rw [beq_eq_false_iff_ne]; omega
    have h11 : (p == 11) = false := by rw [beq_eq_false_iff_ne]; omega
    have h12 : (p == 12) = false := by rw [beq_eq_false_iff_ne]; omega
    clear h
    go_enter Tryz.func4, Tryz.ntmps4
    go_wp2_with fail
    go_ret
    exact ⟨rfl, rfl⟩
/-- the table, as it was laid -/
def Ids (w : World) : Prop := ∀ j, j < 13 → w.cell? ⟨0, j, none⟩ = some (.int .u8 (([0, 1, 2, 3, 4, 5, 6, 7, 8, 9, 12, 10, 11] : List Int).getD j 0))
theorem Ids.new {w w' : World} (h : Ids w) (hn : New w w') : Ids w' := fun j hj => hn.cell (h j hj) (fun h => h)
theorem Ids.cs {w : World} (h : Ids w) : w.cell? ⟨0, 0, none⟩ = some (.int .u8 0) ∧ w.cell? ⟨0, 1, none⟩ = some (.int .u8 1) ∧ w.cell? ⟨0, 2, none⟩ = some (.int .u8 2) ∧ w.cell? ⟨0, 3, none⟩ = some (.int .u8 3) ∧ w.cell? ⟨0, 4, none⟩ = some (.int .u8 4) ∧ w.cell? ⟨0, 5, none⟩ = some (.int .u8 5) ∧ w.cell? ⟨0, 6, none⟩ = some (.int .u8 6) ∧ w.cell? ⟨0, 7, none⟩ = some (.int .u8 7) ∧ w.cell? ⟨0, 8, none⟩ = some (.int .u8 8) ∧ w.cell? ⟨0, 9, none⟩ = some (.int .u8 9) ∧ w.cell? ⟨0, 10, none⟩ = some (.int .u8 12) ∧ w.cell? ⟨0, 11, none⟩ = some (.int .u8 10) ∧ w.cell? ⟨0, 12, none⟩ = some (.int .u8 11) :=
  ⟨h 0 (by decide), h 1 (by decide), h 2 (by decide), h 3 (by decide), h 4 (by decide), h 5 (by decide), h 6 (by decide), h 7 (by decide), h 8 (by decide), h 9 (by decide), h 10 (by decide), h 11 (by decide), h 12 (by decide)⟩
theorem id_any (p : Int) (w : World) (hI : Ids w) : Calls Tryz.prog 5 #[.int .i64 p] w (fun e w' => e = .returned (.int .u8 (idV p)) ∧ w = w') := by
  obtain ⟨z0, z1, z2, z3, z4, z5, z6, z7, z8, z9, z10, z11, z12⟩ := hI.cs
  by_cases h : 1 ≤ p ∧ p ≤ 12
  · have hp : p = 1 ∨ p = 2 ∨ p = 3 ∨ p = 4 ∨ p = 5 ∨ p = 6 ∨ p = 7 ∨ p = 8 ∨ p = 9 ∨ p = 10 ∨ p = 11 ∨ p = 12 := by omega
    clear h
    rcases hp with rfl | rfl | rfl | rfl | rfl | rfl | rfl | rfl | rfl | rfl | rfl | rfl
    all_goals
      go_enter Tryz.func5, Tryz.ntmps5
      go_wp2_with fail
      go_ret
      exact ⟨rfl, rfl⟩
  · have e : idV p = 0 := by
      unfold idV
      rw [if_neg (by omega), if_neg (by omega), if_neg (by omega)]
    rw [e]
    clear e hI
    by_cases h1 : p < 1
    · clear h
      go_enter Tryz.func5, Tryz.ntmps5
      go_wp2_with fail
      go_ret
      exact ⟨rfl, rfl⟩
    · have h2 : decide (p < 1) = false := decide_eq_false h1
      have h3 : decide (12 < p) = true := decide_eq_true (by omega)
      clear h h1
      go_enter Tryz.func5, Tryz.ntmps5
      go_wp2_with fail
      go_ret
      exact ⟨rfl, rfl⟩
/-- which part a section has -/
def partV (i : Int) : Int := if i = 12 then 10 else if i = 10 then 11 else if i = 11 then 12 else if 1 ≤ i ∧ i ≤ 9 then i else 0
def lastV (i : Int) : Nat → Int
  | 0 => 0
  | k + 1 => if 1 ≤ k ∧ idV k = i then k else lastV i k
theorem last_part : ∀ i : Fin 256, lastV i.val 13 = partV i.val := by decide +kernel
theorem last_bd (i : Int) : ∀ k, 0 ≤ lastV i k ∧ lastV i k ≤ k
  | 0 => by unfold lastV; omega
  | k + 1 => by
    have := last_bd i k
    unfold lastV
    split <;> omega
theorem part_step {i : Int} {k : Nat} (h : ∀ j, j < k → ([0, 1, 2, 3, 4, 5, 6, 7, 8, 9, 12, 10, 11] : List Int).getD j 0 ≠ i) (hk : k < 13) (hne : ([0, 1, 2, 3, 4, 5, 6, 7, 8, 9, 12, 10, 11] : List Int).getD k 0 ≠ i) : ∃ m : Nat, Value.int .i64 ((k + 1 : Nat) : Int) = .int .i64 m ∧ m ≤ 13 ∧ ∀ j, j < m → ([0, 1, 2, 3, 4, 5, 6, 7, 8, 9, 12, 10, 11] : List Int).getD j 0 ≠ i :=
  ⟨k + 1, rfl, hk, fun j hj => by
    rcases Nat.lt_or_ge j k with h1 | h1
    · exact h j h1
    · obtain rfl : j = k := by omega
      exact hne⟩
theorem part_any (i : Int) (w : World) (h0 : 0 ≤ i) (h1 : i < 256) (hI : Ids w) : Calls Tryz.prog 6 #[.int .u8 i] w (fun e w' => e = .returned (.int .i64 (partV i)) ∧ w = w') := by
  obtain ⟨z0, z1, z2, z3, z4, z5, z6, z7, z8, z9, z10, z11, z12⟩ := hI.cs
  clear hI
  go_enter Tryz.func6, Tryz.ntmps6
  go_wp2_with fail
  have i0 : ∀ w, (Instr.index 26 (.agg #[.int .u8 0, .int .u8 1, .int .u8 2, .int .u8 3, .int .u8 4, .int .u8 5, .int .u8 6, .int .u8 7, .int .u8 8, .int .u8 9, .int .u8 12, .int .u8 10, .int .u8 11]) (.int .i64 0)).run Tryz.prog w = .ok (.int .u8 0) w := fun _ => by kernel_rfl
  have i1 : ∀ w, (Instr.index 26 (.agg #[.int .u8 0, .int .u8 1, .int .u8 2, .int .u8 3, .int .u8 4, .int .u8 5, .int .u8 6, .int .u8 7, .int .u8 8, .int .u8 9, .int .u8 12, .int .u8 10, .int .u8 11]) (.int .i64 1)).run Tryz.prog w = .ok (.int .u8 1) w := fun _ => by kernel_rfl
  have i2 : ∀ w, (Instr.index 26 (.agg #[.int .u8 0, .int .u8 1, .int .u8 2, .int .u8 3, .int .u8 4, .int .u8 5, .int .u8 6, .int .u8 7, .int .u8 8, .int .u8 9, .int .u8 12, .int .u8 10, .int .u8 11]) (.int .i64 2)).run Tryz.prog w = .ok (.int .u8 2) w := fun _ => by kernel_rfl
  have i3 : ∀ w, (Instr.index 26 (.agg #[.int .u8 0, .int .u8 1, .int .u8 2, .int .u8 3, .int .u8 4, .int .u8 5, .int .u8 6, .int .u8 7, .int .u8 8, .int .u8 9, .int .u8 12, .int .u8 10, .int .u8 11]) (.int .i64 3)).run Tryz.prog w = .ok (.int .u8 3) w := fun _ => by kernel_rfl
  have i4 : ∀ w, (Instr.index 26 (.agg #[.int .u8 0, .int .u8 1, .int .u8 2, .int .u8 3, .int .u8 4, .int .u8 5, .int .u8 6, .int .u8 7, .int .u8 8, .int .u8 9, .int .u8 12, .int .u8 10, .int .u8 11]) (.int .i64 4)).run Tryz.prog w = .ok (.int .u8 4) w := fun _ => by kernel_rfl
  have i5 : ∀ w, (Instr.index 26 (.agg #[.int .u8 0, .int .u8 1, .int .u8 2, .int .u8 3, .int .u8 4, .int .u8 5, .int .u8 6, .int .u8 7, .int .u8 8, .int .u8 9, .int .u8 12, .int .u8 10, .int .u8 11]) (.int .i64 5)).run Tryz.prog w = .ok (.int .u8 5) w := fun _ => by kernel_rfl
  have i6 : ∀ w, (Instr.index 26 (.agg #[.int .u8 0, .int .u8 1, .int .u8 2, .int .u8 3, .int .u8 4, .int .u8 5, .int .u8 6, .int .u8 7, .int .u8 8, .int .u8 9, .int .u8 12, .int .u8 10, .int .u8 11]) (.int .i64 6)).run Tryz.prog w = .ok (.int .u8 6) w := fun _ => by kernel_rfl
  have i7 : ∀ w, (Instr.index 26 (.agg #[.int .u8 0, .int .u8 1, .int .u8 2, .int .u8 3, .int .u8 4, .int .u8 5, .int .u8 6, .int .u8 7, .int .u8 8, .int .u8 9, .int .u8 12, .int .u8 10, .int .u8 11]) (.int .i64 7)).run Tryz.prog w = .ok (.int .u8 7) w := fun _ => by kernel_rfl
  have i8 : ∀ w, (Instr.index 26 (.agg #[.int .u8 0, .int .u8 1, .int .u8 2, .int .u8 3, .int .u8 4, .int .u8 5, .int .u8 6, .int .u8 7, .int .u8 8, .int .u8 9, .int .u8 12, .int .u8 10, .int .u8 11]) (.int .i64 8)).run Tryz.prog w = .ok (.int .u8 8) w := fun _ => by kernel_rfl
  have i9 : ∀ w, (Instr.index 26 (.agg #[.int .u8 0, .int .u8 1, .int .u8 2, .int .u8 3, .int .u8 4, .int .u8 5, .int .u8 6, .int .u8 7, .int .u8 8, .int .u8 9, .int .u8 12, .int .u8 10, .int .u8 11]) (.int .i64 9)).run Tryz.prog w = .ok (.int .u8 9) w := fun _ => by kernel_rfl
  have i10 : ∀ w, (Instr.index 26 (.agg #[.int .u8 0, .int .u8 1, .int .u8 2, .int .u8 3, .int .u8 4, .int .u8 5, .int .u8 6, .int .u8 7, .int .u8 8, .int .u8 9, .int .u8 12, .int .u8 10, .int .u8 11]) (.int .i64 10)).run Tryz.prog w = .ok (.int .u8 12) w := fun _ => by kernel_rfl
  have i11 : ∀ w, (Instr.index 26 (.agg #[.int .u8 0, .int .u8 1, .int .u8 2, .int .u8 3, .int .u8 4, .int .u8 5, .int .u8 6, .int .u8 7, .int .u8 8, .int .u8 9, .int .u8 12, .int .u8 10, .int .u8 11]) (.int .i64 11)).run Tryz.prog w = .ok (.int .u8 10) w := fun _ => by kernel_rfl
  have i12 : ∀ w, (Instr.index 26 (.agg #[.int .u8 0, .int .u8 1, .int .u8 2, .int .u8 3, .int .u8 4, .int .u8 5, .int .u8 6, .int .u8 7, .int .u8 8, .int .u8 9, .int .u8 12, .int .u8 10, .int .u8 11]) (.int .i64 12)).run Tryz.prog w = .ok (.int .u8 11) w := fun _ => by kernel_rfl
  go_loop [6] (fun c => ∃ k : Nat, c = .int .i64 k ∧ k ≤ 13 ∧ ∀ j, j < k → ([0, 1, 2, 3, 4, 5, 6, 7, 8, 9, 12, 10, 11] : List Int).getD j 0 ≠ i) (fun c => 13 - (intOf c).toNat)
  case atStart => exact ⟨0, rfl, by omega, fun j h => absurd h (Nat.not_lt_zero _)⟩
  case round =>
    obtain ⟨k, rfl, hk, hno⟩ := hrel
    have hk' : k = 0 ∨ k = 1 ∨ k = 2 ∨ k = 3 ∨ k = 4 ∨ k = 5 ∨ k = 6 ∨ k = 7 ∨ k = 8 ∨ k = 9 ∨ k = 10 ∨ k = 11 ∨ k = 12 ∨ k = 13 := by omega
    have HNO := hid hno
    clear hk hno
    rcases hk' with rfl | rfl | rfl | rfl | rfl | rfl | rfl | rfl | rfl | rfl | rfl | rfl | rfl | rfl
    case inr.inr.inr.inr.inr.inr.inr.inr.inr.inr.inr.inr.inr =>
      go_wp2_with fail
      go_ret
      refine ⟨?_, rfl⟩
      have a1 := HNO.out 1 (by decide)
      have a2 := HNO.out 2 (by decide)
      have a3 := HNO.out 3 (by decide)
      have a4 := HNO.out 4 (by decide)
      have a5 := HNO.out 5 (by decide)
      have a6 := HNO.out 6 (by decide)
      have a7 := HNO.out 7 (by decide)
      have a8 := HNO.out 8 (by decide)
      have a9 := HNO.out 9 (by decide)
      have a10 := HNO.out 10 (by decide)
      have a11 := HNO.out 11 (by decide)
      have a12 := HNO.out 12 (by decide)
      simp at a1 a2 a3 a4 a5 a6 a7 a8 a9 a10 a11 a12
      have e : partV i = 0 := by
        unfold partV
        rw [if_neg (by omega), if_neg (by omega), if_neg (by omega), if_neg (by omega)]
      rw [e]
      rfl
    all_goals
      go_wp2_with fail
    all_goals first
      | (go_ret
         refine ⟨?_, rfl⟩
         simp only [beq_iff_eq] at *
         subst i
         rfl)
      | (go_round
         case rel => exact part_step HNO.out (by decide) (by intro e; simp at e; simp_all)
         case measure => simp [intOf])
theorem idxnil57 (f : Value) (w : World) : Calls Tryz.prog 57 #[.slice none 0 0, f] w (fun e w' => e = .returned (.int .i64 (-1)) ∧ w = w') := by
  go_enter Tryz.func57, Tryz.ntmps57
  go_wp2_with fail
  go_loop [8] (fun c => c = .int .i64 0) (fun _ => 0)
  case atStart => rfl
  case round =>
    subst hrel
    go_wp2_with fail
    go_ret
    exact ⟨rfl, rfl⟩
theorem connil29 (f : Value) (w : World) : Calls Tryz.prog 29 #[.slice none 0 0, f] w (fun e w' => e = .returned (.bool false) ∧ w = w') := by
  go_enter Tryz.func29, Tryz.ntmps29
  go_wp2_with fail
  refine (idxnil57 _ _).mono ?_
  rintro e w' ⟨rfl, rfl⟩
  go_wp2_with fail
  go_ret
  exact ⟨rfl, rfl⟩
theorem allnil9 (k : Nat) (w : World) : Calls Tryz.prog 9 #[.slice none 0 0, .func (.func k) #[] #[]] w (IsNew true w) := by
  have HN := hid (fun o => (Upd.refl (fun _ => False) w).alloc o)
  go_enter Tryz.func9, Tryz.ntmps9
  go_wp2_with fail
  refine (connil29 _ _).mono ?_
  rintro e w' ⟨rfl, rfl⟩
  go_wp2_with fail
  go_ret
  exact ⟨rfl, HN.out _⟩
theorem idxnil60 (f : Value) (w : World) : Calls Tryz.prog 60 #[.slice none 0 0, f] w (fun e w' => e = .returned (.int .i64 (-1)) ∧ w = w') := by
  go_enter Tryz.func60, Tryz.ntmps60
  go_wp2_with fail
  go_loop [8] (fun c => c = .int .i64 0) (fun _ => 0)
  case atStart => rfl
  case round =>
    subst hrel
    go_wp2_with fail
    go_ret
    exact ⟨rfl, rfl⟩
theorem connil32 (f : Value) (w : World) : Calls Tryz.prog 32 #[.slice none 0 0, f] w (fun e w' => e = .returned (.bool false) ∧ w = w') := by
  go_enter Tryz.func32, Tryz.ntmps32
  go_wp2_with fail
  refine (idxnil60 _ _).mono ?_
  rintro e w' ⟨rfl, rfl⟩
  go_wp2_with fail
  go_ret
  exact ⟨rfl, rfl⟩
theorem allnil11 (k : Nat) (w : World) : Calls Tryz.prog 11 #[.slice none 0 0, .func (.func k) #[] #[]] w (IsNew true w) := by
  have HN := hid (fun o => (Upd.refl (fun _ => False) w).alloc o)
  go_enter Tryz.func11, Tryz.ntmps11
  go_wp2_with fail
  refine (connil32 _ _).mono ?_
  rintro e w' ⟨rfl, rfl⟩
  go_wp2_with fail
  go_ret
  exact ⟨rfl, HN.out _⟩
theorem idxnil62 (f : Value) (w : World) : Calls Tryz.prog 62 #[.slice none 0 0, f] w (fun e w' => e = .returned (.int .i64 (-1)) ∧ w = w') := by
  go_enter Tryz.func62, Tryz.ntmps62
  go_wp2_with fail
  go_loop [8] (fun c => c = .int .i64 0) (fun _ => 0)
  case atStart => rfl
  case round =>
    subst hrel
    go_wp2_with fail
    go_ret
    exact ⟨rfl, rfl⟩
theorem connil36 (f : Value) (w : World) : Calls Tryz.prog 36 #[.slice none 0 0, f] w (fun e w' => e = .returned (.bool false) ∧ w = w') := by
  go_enter Tryz.func36, Tryz.ntmps36
  go_wp2_with fail
  refine (idxnil62 _ _).mono ?_
  rintro e w' ⟨rfl, rfl⟩
  go_wp2_with fail
  go_ret
  exact ⟨rfl, rfl⟩
theorem allnil13 (k : Nat) (w : World) : Calls Tryz.prog 13 #[.slice none 0 0, .func (.func k) #[] #[]] w (IsNew true w) := by
  have HN := hid (fun o => (Upd.refl (fun _ => False) w).alloc o)
  go_enter Tryz.func13, Tryz.ntmps13
  go_wp2_with fail
  refine (connil36 _ _).mono ?_
  rintro e w' ⟨rfl, rfl⟩
  go_wp2_with fail
  go_ret
  exact ⟨rfl, HN.out _⟩
theorem idxnil63 (f : Value) (w : World) : Calls Tryz.prog 63 #[.slice none 0 0, f] w (fun e w' => e = .returned (.int .i64 (-1)) ∧ w = w') := by
  go_enter Tryz.func63, Tryz.ntmps63
  go_wp2_with fail
  go_loop [8] (fun c => c = .int .i64 0) (fun _ => 0)
  case atStart => rfl
  case round =>
    subst hrel
    go_wp2_with fail
    go_ret
    exact ⟨rfl, rfl⟩
theorem connil39 (f : Value) (w : World) : Calls Tryz.prog 39 #[.slice none 0 0, f] w (fun e w' => e = .returned (.bool false) ∧ w = w') := by
  go_enter Tryz.func39, Tryz.ntmps39
  go_wp2_with fail
  refine (idxnil63 _ _).mono ?_
  rintro e w' ⟨rfl, rfl⟩
  go_wp2_with fail
  go_ret
  exact ⟨rfl, rfl⟩
theorem allnil15 (k : Nat) (w : World) : Calls Tryz.prog 15 #[.slice none 0 0, .func (.func k) #[] #[]] w (IsNew true w) := by
  have HN := hid (fun o => (Upd.refl (fun _ => False) w).alloc o)
  go_enter Tryz.func15, Tryz.ntmps15
  go_wp2_with fail
  refine (connil39 _ _).mono ?_
  rintro e w' ⟨rfl, rfl⟩
  go_wp2_with fail
  go_ret
  exact ⟨rfl, HN.out _⟩
theorem idxnil64 (f : Value) (w : World) : Calls Tryz.prog 64 #[.slice none 0 0, f] w (fun e w' => e = .returned (.int .i64 (-1)) ∧ w = w') := by
  go_enter Tryz.func64, Tryz.ntmps64
  go_wp2_with fail
  go_loop [8] (fun c => c = .int .i64 0) (fun _ => 0)
  case atStart => rfl
  case round =>
    subst hrel
    go_wp2_with fail
    go_ret
    exact ⟨rfl, rfl⟩
theorem connil41 (f : Value) (w : World) : Calls Tryz.prog 41 #[.slice none 0 0, f] w (fun e w' => e = .returned (.bool false) ∧ w = w') := by
  go_enter Tryz.func41, Tryz.ntmps41
  go_wp2_with fail
  refine (idxnil64 _ _).mono ?_
  rintro e w' ⟨rfl, rfl⟩
  go_wp2_with fail
  go_ret
  exact ⟨rfl, rfl⟩
theorem allnil17 (k : Nat) (w : World) : Calls Tryz.prog 17 #[.slice none 0 0, .func (.func k) #[] #[]] w (IsNew true w) := by
  have HN := hid (fun o => (Upd.refl (fun _ => False) w).alloc o)
  go_enter Tryz.func17, Tryz.ntmps17
  go_wp2_with fail
  refine (connil41 _ _).mono ?_
  rintro e w' ⟨rfl, rfl⟩
  go_wp2_with fail
  go_ret
  exact ⟨rfl, HN.out _⟩
theorem idxnil70 (f : Value) (w : World) : Calls Tryz.prog 70 #[.slice none 0 0, f] w (fun e w' => e = .returned (.int .i64 (-1)) ∧ w = w') := by
  go_enter Tryz.func70, Tryz.ntmps70
  go_wp2_with fail
  go_loop [8] (fun c => c = .int .i64 0) (fun _ => 0)
  case atStart => rfl
  case round =>
    subst hrel
    go_wp2_with fail
    go_ret
    exact ⟨rfl, rfl⟩
theorem connil44 (f : Value) (w : World) : Calls Tryz.prog 44 #[.slice none 0 0, f] w (fun e w' => e = .returned (.bool false) ∧ w = w') := by
  go_enter Tryz.func44, Tryz.ntmps44
  go_wp2_with fail
  refine (idxnil70 _ _).mono ?_
  rintro e w' ⟨rfl, rfl⟩
  go_wp2_with fail
  go_ret
  exact ⟨rfl, rfl⟩
theorem allnil19 (k : Nat) (w : World) : Calls Tryz.prog 19 #[.slice none 0 0, .func (.func k) #[] #[]] w (IsNew true w) := by
  have HN := hid (fun o => (Upd.refl (fun _ => False) w).alloc o)
  go_enter Tryz.func19, Tryz.ntmps19
  go_wp2_with fail
  refine (connil44 _ _).mono ?_
  rintro e w' ⟨rfl, rfl⟩
  go_wp2_with fail
  go_ret
  exact ⟨rfl, HN.out _⟩
theorem idxnil71 (f : Value) (w : World) : Calls Tryz.prog 71 #[.slice none 0 0, f] w (fun e w' => e = .returned (.int .i64 (-1)) ∧ w = w') := by
  go_enter Tryz.func71, Tryz.ntmps71
  go_wp2_with fail
  go_loop [8] (fun c => c = .int .i64 0) (fun _ => 0)
  case atStart => rfl
  case round =>
    subst hrel
    go_wp2_with fail
    go_ret
    exact ⟨rfl, rfl⟩
theorem connil46 (f : Value) (w : World) : Calls Tryz.prog 46 #[.slice none 0 0, f] w (fun e w' => e = .returned (.bool false) ∧ w = w') := by
  go_enter Tryz.func46, Tryz.ntmps46
  go_wp2_with fail
  refine (idxnil71 _ _).mono ?_
  rintro e w' ⟨rfl, rfl⟩
  go_wp2_with fail
  go_ret
  exact ⟨rfl, rfl⟩
theorem allnil21 (k : Nat) (w : World) : Calls Tryz.prog 21 #[.slice none 0 0, .func (.func k) #[] #[]] w (IsNew true w) := by
  have HN := hid (fun o => (Upd.refl (fun _ => False) w).alloc o)
  go_enter Tryz.func21, Tryz.ntmps21
  go_wp2_with fail
  refine (connil46 _ _).mono ?_
  rintro e w' ⟨rfl, rfl⟩
  go_wp2_with fail
  go_ret
  exact ⟨rfl, HN.out _⟩
theorem idxnil73 (f : Value) (w : World) : Calls Tryz.prog 73 #[.slice none 0 0, f] w (fun e w' => e = .returned (.int .i64 (-1)) ∧ w = w') := by
  go_enter Tryz.func73, Tryz.ntmps73
  go_wp2_with fail
  go_loop [8] (fun c => c = .int .i64 0) (fun _ => 0)
  case atStart => rfl
  case round =>
    subst hrel
    go_wp2_with fail
    go_ret
    exact ⟨rfl, rfl⟩
theorem connil50 (f : Value) (w : World) : Calls Tryz.prog 50 #[.slice none 0 0, f] w (fun e w' => e = .returned (.bool false) ∧ w = w') := by
  go_enter Tryz.func50, Tryz.ntmps50
  go_wp2_with fail
  refine (idxnil73 _ _).mono ?_
  rintro e w' ⟨rfl, rfl⟩
  go_wp2_with fail
  go_ret
  exact ⟨rfl, rfl⟩
theorem allnil23 (k : Nat) (w : World) : Calls Tryz.prog 23 #[.slice none 0 0, .func (.func k) #[] #[]] w (IsNew true w) := by
  have HN := hid (fun o => (Upd.refl (fun _ => False) w).alloc o)
  go_enter Tryz.func23, Tryz.ntmps23
  go_wp2_with fail
  refine (connil50 _ _).mono ?_
  rintro e w' ⟨rfl, rfl⟩
  go_wp2_with fail
  go_ret
  exact ⟨rfl, HN.out _⟩
theorem idxnil74 (f : Value) (w : World) : Calls Tryz.prog 74 #[.slice none 0 0, f] w (fun e w' => e = .returned (.int .i64 (-1)) ∧ w = w') := by
  go_enter Tryz.func74, Tryz.ntmps74
  go_wp2_with fail
  go_loop [8] (fun c => c = .int .i64 0) (fun _ => 0)
  case atStart => rfl
  case round =>
    subst hrel
    go_wp2_with fail
    go_ret
    exact ⟨rfl, rfl⟩
theorem connil53 (f : Value) (w : World) : Calls Tryz.prog 53 #[.slice none 0 0, f] w (fun e w' => e = .returned (.bool false) ∧ w = w') := by
  go_enter Tryz.func53, Tryz.ntmps53
  go_wp2_with fail
  refine (idxnil74 _ _).mono ?_
  rintro e w' ⟨rfl, rfl⟩
  go_wp2_with fail
  go_ret
  exact ⟨rfl, rfl⟩
theorem allnil25 (k : Nat) (w : World) : Calls Tryz.prog 25 #[.slice none 0 0, .func (.func k) #[] #[]] w (IsNew true w) := by
  have HN := hid (fun o => (Upd.refl (fun _ => False) w).alloc o)
  go_enter Tryz.func25, Tryz.ntmps25
  go_wp2_with fail
  refine (connil53 _ _).mono ?_
  rintro e w' ⟨rfl, rfl⟩
  go_wp2_with fail
  go_ret
  exact ⟨rfl, HN.out _⟩
end Go.Proofs.YtaclfphflhjpoaaGreatDoor
