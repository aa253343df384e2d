/-
  The walks of ops: the rows.
-/
import Derived.Test.YtnngibflnnmioaaChecked
import Derived.Test.YtnngibflnnmioaaAgg
import Derived.Deep.RegionHeld3
import Derived.Deep.DeepCutAuto
import Derived.WalkMore
namespace Go.Proofs.Ytnngibflnnmioaa
open Go.RowKit Go.Proofs.Own
set_option maxRecDepth 100000
set_option maxHeartbeats 2000000

def InPost (c lo hi : Int) (w : World) (e : Ending) (w' : World) : Prop := e = .returned (.bool (decide (lo ≤ c ∧ c ≤ hi))) ∧ w = w'
theorem in_post (c lo hi : Int) (w : World) : Calls Try.prog 87 #[.int .u32 c, .int .u32 lo, .int .u32 hi] w (InPost c lo hi w) := by
  by_cases h1 : lo ≤ c
  · by_cases h2 : c ≤ hi
    · go_enter Try.func87, Try.ntmps87
      go_wp2_with fail
      go_ret
      exact ⟨by rw [decide_eq_true ⟨h1, h2⟩]; rfl, rfl⟩
    · have h3 : decide (c ≤ hi) = false := decide_eq_false h2
      go_enter Try.func87, Try.ntmps87
      go_wp2_with fail
      go_ret
      exact ⟨by rw [decide_eq_false (by omega : ¬ (lo ≤ c ∧ c ≤ hi))]; rfl, rfl⟩
  · have h3 : decide (lo ≤ c) = false := decide_eq_false h1
    go_enter Try.func87, Try.ntmps87
    go_wp2_with fail
    go_ret
    exact ⟨by rw [decide_eq_false (by omega : ¬ (lo ≤ c ∧ c ≤ hi))]; rfl, rfl⟩
theorem in_any (c lo hi : Int) (w : World) :
    Calls Try.prog 87 #[.int .u32 c, .int .u32 lo, .int .u32 hi] w fun e w' => e = .returned (.bool (decide (lo ≤ c ∧ c ≤ hi))) ∧ w = w' := in_post c lo hi w

/-- an op without a prefix: its row; -1: none -/
def plainV (c : Int) : Int :=
  if (69 ≤ c ∧ c ≤ 196) ∨ (0 ≤ c ∧ c ≤ 1) ∨ c = 5 ∨ c = 11 ∨ c = 15 ∨ (26 ≤ c ∧ c ≤ 27) ∨ c = 209 then 0
  else if (32 ≤ c ∧ c ≤ 38) ∨ (12 ≤ c ∧ c ≤ 13) ∨ c = 16 ∨ c = 210 then 2
  else if 65 ≤ c ∧ c ≤ 68 then 9 + (c - 65)
  else if 40 ≤ c ∧ c ≤ 62 then 5
  else if 2 ≤ c ∧ c ≤ 4 then 1
  else if c = 17 then 3
  else if 63 ≤ c ∧ c ≤ 64 then 6
  else -1

def RowPost (s l : Int) (w : World) (e : Ending) (w' : World) : Prop := e = .returned (.agg #[.int .i64 s, .int .i64 l]) ∧ New w w'

theorem rowEq {a b s l : Int} (h1 : a = s) (h2 : b = l) : Ending.returned (.agg #[.int .i64 a, .int .i64 b]) = .returned (.agg #[.int .i64 s, .int .i64 l]) := by rw [h1, h2]

theorem plainRow_any (c : Int) (w : World) (c0 : 0 ≤ c) (c1 : c < 4294967296) : Calls Try.prog 65 #[.int .u32 c] w (RowPost (plainV c) 0 w) := by
  obtain ⟨s, hs⟩ : ∃ s, plainV c = s := ⟨_, rfl⟩
  rw [hs]
  have HS := hid hs
  clear hs
  have HI := hid (in_any c)
  go_enter Try.func65, Try.ntmps65
  go_wp2_with (go_at_call 87; refine (HI.out _ _ _).mono ?_; rintro e w' ⟨rfl, rfl⟩)
  all_goals
    refine ret_agg rfl Try.underlying66 rfl w.heap.size _ _ ?_ rfl rfl (hp_new rfl) ?_
    · kernel_rfl
    · refine ⟨rowEq ?_ rfl, (Upd.refl _ _).alloc _⟩
      rw [← HS.out]
      clear HS HI
      try simp only [beq_iff_eq, beq_eq_false_iff_ne, ne_eq] at *
      unfold plainV
      repeat (first | rw [if_pos (by omega)] | rw [if_neg (by omega)])

/-- the same behind FC -/
def miscV (c : Int) : Int :=
  if 0 ≤ c ∧ c ≤ 7 then 0
  else if c = 9 ∨ c = 13 ∨ (15 ≤ c ∧ c ≤ 17) then 2
  else if c = 12 ∨ c = 14 then 3
  else if c = 11 then 6
  else -1
theorem miscRow_any (c : Int) (w : World) (c0 : 0 ≤ c) (c1 : c < 4294967296) : Calls Try.prog 66 #[.int .u32 c] w (RowPost (miscV c) 0 w) := by
  obtain ⟨s, hs⟩ : ∃ s, miscV c = s := ⟨_, rfl⟩
  rw [hs]
  have HS := hid hs
  clear hs
  have HI := hid (in_any c)
  go_enter Try.func66, Try.ntmps66
  go_wp2_with (go_at_call 87; refine (HI.out _ _ _).mono ?_; rintro e w' ⟨rfl, rfl⟩)
  all_goals
    refine ret_agg rfl Try.underlying66 rfl w.heap.size _ _ ?_ rfl rfl (hp_new rfl) ?_
    · kernel_rfl
    · refine ⟨rowEq ?_ rfl, (Upd.refl _ _).alloc _⟩
      rw [← HS.out]
      clear HS HI
      try simp only [beq_iff_eq, beq_eq_false_iff_ne, ne_eq] at *
      unfold miscV
      repeat (first | rw [if_pos (by omega)] | rw [if_neg (by omega)])

def lanesV (c : Int) : Int := if c ≤ 23 then 16 else if c ≤ 26 then 8 else if (27 ≤ c ∧ c ≤ 28) ∨ (31 ≤ c ∧ c ≤ 32) then 4 else 2
def LanesPost (s : Int) (w : World) (e : Ending) (w' : World) : Prop := e = .returned (.int .i64 s) ∧ w = w'
theorem lanes_post (c : Int) (w : World) : Calls Try.prog 88 #[.int .u32 c] w (LanesPost (lanesV c) w) := by
  obtain ⟨s, hs⟩ : ∃ s, lanesV c = s := ⟨_, rfl⟩
  rw [hs]
  have HS := hid hs
  clear hs
  have HI := hid (in_any c)
  go_enter Try.func88, Try.ntmps88
  go_wp2_with (go_at_call 87; refine (HI.out _ _ _).mono ?_; rintro e w' ⟨rfl, rfl⟩)
  all_goals
    go_ret
    refine ⟨?_, rfl⟩
    rw [← HS.out]
    clear HS HI
    unfold lanesV
    repeat (first | rw [if_pos (by omega)] | rw [if_neg (by omega)])
    rfl
theorem lanes_any (c : Int) (w : World) : Calls Try.prog 88 #[.int .u32 c] w fun e w' => e = .returned (.int .i64 (lanesV c)) ∧ w = w' := lanes_post c w

def missP (c : Int) : Prop := c = 154 ∨ c = 162 ∨ c = 165 ∨ c = 166 ∨ c = 175 ∨ c = 176 ∨ c = 178 ∨ c = 179 ∨ c = 180 ∨ c = 187 ∨ c = 194 ∨ c = 197 ∨ c = 198 ∨ c = 207 ∨ c = 208 ∨ c = 210 ∨ c = 211 ∨ c = 212 ∨ c = 226 ∨ c = 238
instance (c : Int) : Decidable (missP c) := by unfold missP; infer_instance
def MissPost (b : Bool) (w : World) (e : Ending) (w' : World) : Prop := e = .returned (.bool b) ∧ w = w'
theorem missing_post (c : Int) (w : World) : Calls Try.prog 89 #[.int .u32 c] w (MissPost (decide (missP c)) w) := by
  obtain ⟨s, hs⟩ : ∃ s, decide (missP c) = s := ⟨_, rfl⟩
  rw [hs]
  have HS := hid hs
  clear hs
  go_enter Try.func89, Try.ntmps89
  go_wp2_with fail
  all_goals
    go_ret
    refine ⟨?_, rfl⟩
    rw [← HS.out]
    clear HS
    try simp only [beq_iff_eq, beq_eq_false_iff_ne, ne_eq] at *
    first
      | rw [decide_eq_true (by unfold missP; omega)]; rfl
      | rw [decide_eq_false (by unfold missP; omega)]; rfl
theorem missing_any (c : Int) (w : World) : Calls Try.prog 89 #[.int .u32 c] w fun e w' => e = .returned (.bool (decide (missP c))) ∧ w = w' := missing_post c w

def shV (c : Int) : Int := if c % 4 = 0 then 16 else if c % 4 = 1 then 8 else if c % 4 = 2 then 4 else 2
/-- the same behind FD; beside it how many lanes -/
def vectorV (c : Int) : Int × Int :=
  if (0 ≤ c ∧ c ≤ 11) ∨ (92 ≤ c ∧ c ≤ 93) then (5, 0)
  else if 21 ≤ c ∧ c ≤ 34 then (15, lanesV c)
  else if 84 ≤ c ∧ c ≤ 91 then (16, shV c)
  else if (14 ≤ c ∧ c ≤ 20) ∨ (35 ≤ c ∧ c ≤ 83) ∨ ((94 ≤ c ∧ c ≤ 255) ∧ ¬ missP c) then (0, 0)
  else (-1, 0)
theorem sh_eq (c : Int) : (16 : Int) / 2 ^ (c % 4).toNat = shV c := by
  have : c % 4 = 0 ∨ c % 4 = 1 ∨ c % 4 = 2 ∨ c % 4 = 3 := by omega
  unfold shV
  rcases this with h | h | h | h <;> rw [h] <;> rfl
theorem vectorRow_any (c : Int) (w : World) (c0 : 0 ≤ c) (c1 : c < 4294967296) : Calls Try.prog 67 #[.int .u32 c] w (RowPost (vectorV c).1 (vectorV c).2 w) := by
  obtain ⟨s, hs⟩ : ∃ s, vectorV c = s := ⟨_, rfl⟩
  rw [hs]
  have HS := hid hs
  clear hs
  have HI := hid (in_any c)
  have HL := hid (lanes_any c)
  have HM := hid (missing_any c)
  go_enter Try.func67, Try.ntmps67
  go_wp2_with (first | (go_at_call 87; refine (HI.out _ _ _).mono ?_; rintro e w' ⟨rfl, rfl⟩) | (go_at_call 88; refine (HL.out _).mono ?_; rintro e w' ⟨rfl, rfl⟩) | (go_at_call 89; refine (HM.out _).mono ?_; rintro e w' ⟨rfl, rfl⟩))
  all_goals
    refine ret_agg rfl Try.underlying66 rfl w.heap.size _ _ ?_ rfl rfl (hp_new rfl) ?_
    · kernel_rfl
    · have hv : Hid (s = vectorV c) := HS.out.symm
      clear HS HI HL HM
      try simp only [Bool.not_eq_true', decide_eq_false_iff_not, Bool.not_eq_false', decide_eq_true_eq] at *
      have hv2 := hv.out
      unfold vectorV at hv2
      repeat (first
        | rw [if_pos (by omega)] at hv2
        | rw [if_neg (by omega)] at hv2
        | rw [if_pos (Or.inr (Or.inr ⟨⟨by omega, by omega⟩, by assumption⟩))] at hv2
        | rw [if_neg (fun h => by rcases h with h | h | ⟨_, h2⟩ <;> first | omega | exact h2 (by assumption))] at hv2)
      rw [hv2]
      exact ⟨rowEq (by first | rfl | exact sh_eq c) (by first | rfl | exact sh_eq c), (Upd.refl _ _).alloc _⟩
end Go.Proofs.Ytnngibflnnmioaa
