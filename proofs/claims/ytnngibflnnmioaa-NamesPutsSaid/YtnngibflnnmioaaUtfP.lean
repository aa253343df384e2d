/-
  The walks of texts: the program's.
-/
import Derived.Test.YtnngibflnnmioaaChecked
import Derived.Test.YtnngibflnnmioaaByt
import Derived.Test.YtnngibflnnmioaaUtf
import Derived.Deep.RegionHeld3
import Derived.Deep.DeepCutAuto
import Derived.WalkMore
import Derived.Deep.LoopGhost
namespace Go.Proofs.Ytnngibflnnmioaa
open Go.RowKit Go.Proofs.Own Go.Proofs.Utf
set_option maxRecDepth 100000
set_option maxHeartbeats 2000000

def firstV (x : Nat) : Nat × Nat × Nat × Bool := match cls x with
  | none => (0, 0, 0, false)
  | some (m, lo, hi) => (m, lo, hi, true)

theorem first_any (x : Nat) (hx : x < 256) (w : World) :
    Calls Try.prog 95 #[.int .u8 x] w fun e w' => e = .returned (.tuple #[.int .i64 (firstV x).1, .int .u8 (firstV x).2.1, .int .u8 (firstV x).2.2.1, .bool (firstV x).2.2.2]) ∧ w = w' := by
  rcases cls_cases x with ⟨h, e⟩ | ⟨h, e⟩ | ⟨h, e⟩ | ⟨h, e⟩ | ⟨h, e⟩ | ⟨h, e⟩ | ⟨h, e⟩ | ⟨h, e⟩ | ⟨h, e⟩
  all_goals
    have E0 : firstV x = (match cls x with | none => (0, 0, 0, false) | some (m, lo, hi) => (m, lo, hi, true)) := rfl
    rw [e] at E0
    simp only at E0
    have E := hid E0
    clear e E0
  all_goals first
    | (have e1 : ((x : Int) == 224) = false := beq_eq_false_iff_ne.mpr (by omega)
       have e2 : ((x : Int) == 237) = false := beq_eq_false_iff_ne.mpr (by omega)
       have e3 : ((x : Int) == 240) = false := beq_eq_false_iff_ne.mpr (by omega)
       have e4 : ((x : Int) == 244) = false := beq_eq_false_iff_ne.mpr (by omega)
       go_enter Try.func95, Try.ntmps95
       go_wp2_with fail)
    | (subst h
       go_enter Try.func95, Try.ntmps95
       go_wp2_with fail)
  all_goals
    refine bodyPost_ret (v := .tuple #[.int .i64 (firstV _).1, .int .u8 (firstV _).2.1, .int .u8 (firstV _).2.2.1, .bool (firstV _).2.2.2]) ?_ rfl ⟨rfl, rfl⟩
    rw [E.out]
    simp [results, Try.results95, go_sem]

theorem firstV_bd (x : Nat) : (firstV x).1 ≤ 3 ∧ (firstV x).2.1 < 256 ∧ (firstV x).2.2.1 < 256 := by
  unfold firstV
  rcases cls_cases x with ⟨h, e⟩ | ⟨h, e⟩ | ⟨h, e⟩ | ⟨h, e⟩ | ⟨h, e⟩ | ⟨h, e⟩ | ⟨h, e⟩ | ⟨h, e⟩ | ⟨h, e⟩ <;> rw [e] <;> simp
theorem run_first (x : UInt8) (t : List UInt8) (lo hi : Nat) : run (x :: t) 0 lo hi = if (firstV x.toNat).2.2.2 = true then run t (firstV x.toNat).1 (firstV x.toNat).2.1 (firstV x.toNat).2.2.1 else (0, false) := by
  rw [run, if_pos rfl]
  unfold firstV
  cases cls x.toNat <;> simp
theorem drop_at (s : ByteArray) (k : Nat) (h : k < s.size) : s.data.toList.drop k = s[k] :: s.data.toList.drop (k + 1) := by
  rw [List.drop_eq_getElem_cons (by simpa using h)]
  rfl

theorem Need_any (s : ByteArray) (w : World) (hs : s.size ≤ 9223372036854775807) :
    Calls Try.prog 82 #[.string s] w fun e w' => e = .returned (.tuple #[.int .i64 (need s.data.toList).1, .bool (need s.data.toList).2]) ∧ w = w' := by
  obtain ⟨r, hr⟩ : ∃ r, need s.data.toList = r := ⟨_, rfl⟩
  have hrun : run s.data.toList 0 0 0 = r := (run_need _ _ (Nat.le_refl _)).trans hr
  rw [hr]
  have HRUN := hid hrun
  clear hrun hr
  go_enter Try.func82, Try.ntmps82
  go_wp2_with fail
  go_step3
  go_wp2_with fail
  go_step3
  go_wp2_with fail
  go_loopg [4, 5, 6, 7, 12] s.size (fun k a b c d e wr => ∃ i m lo hi : Nat, k = s.size - i ∧ a = .int .i64 m ∧ b = .int .u8 lo ∧ c = .int .u8 hi ∧ d = .bool true ∧ e = .int .i64 i ∧ i ≤ s.size ∧ m ≤ 3 ∧ lo < 256 ∧ hi < 256 ∧ w = wr ∧ run (s.data.toList.drop i) m lo hi = r)
  case atStart => exact ⟨0, 0, 0, 0, by simp, rfl, rfl, rfl, rfl, rfl, Nat.zero_le _, by omega, by omega, by omega, rfl, HRUN.out⟩
  case round =>
    obtain ⟨i, m, lo, hi, rfl, rfl, rfl, rfl, rfl, rfl, hi1, hm, hlo, hhi, rfl, hrn⟩ := hrel
    by_cases hlt : i < s.size
    · rw [drop_at s i hlt] at hrn
      obtain ⟨x, hx⟩ : ∃ x, s[i] = x := ⟨_, rfl⟩
      have hx2 : s[i].toNat = x.toNat := by rw [hx]
      rw [hx] at hrn
      have hx3 := u8_lt x
      have HRN := hid hrn
      clear hrn hx
      by_cases hm0 : m = 0
      · subst hm0
        have HF := hid (first_any x.toNat hx3)
        have HRF := hid (run_first x (s.data.toList.drop (i + 1)) lo hi)
        have fb := firstV_bd x.toNat
        generalize firstV x.toNat = f at *
        obtain ⟨f1, f2, f3, f4⟩ := f
        simp only at fb HF HRF
        obtain ⟨fb1, fb2, fb3⟩ := fb
        go_wp2_with fail
        refine (HF.out _).mono ?_
        rintro e w' ⟨rfl, rfl⟩
        cases f4 with
        | true =>
          have HE : Hid (run (s.data.toList.drop (i + 1)) f1 f2 f3 = r) := by
            have := HRF.out
            rw [if_pos rfl] at this
            exact this.symm.trans HRN.out
          go_wp2_with fail
          go_roundg (s.size - (i + 1))
          case measure => omega
          case rel => exact ⟨i + 1, f1, f2, f3, rfl, rfl, rfl, rfl, rfl, by go_num, by omega, fb1, fb2, fb3, rfl, HE.out⟩
        | false =>
          have HE : Hid (r = (0, false)) := by
            have := HRF.out
            rw [if_neg (by decide)] at this
            exact HRN.out.symm.trans this
          go_wp2_with fail
          rw [Exit.noGoto_ret]
          go_ret2
          exact ⟨by rw [HE.out]; rfl, rfl⟩
      · have hm0' : ((m : Int) == 0) = false := beq_eq_false_iff_ne.mpr (by omega)
        by_cases hb : x.toNat < lo ∨ hi < x.toNat
        · have HE : Hid (r = (0, false)) := by
            have := HRN.out
            rw [run, if_neg hm0, if_pos hb] at this
            exact this.symm
          by_cases hb1 : x.toNat < lo
          · go_wp2_with fail
            rw [Exit.noGoto_ret]
            go_ret2
            exact ⟨by rw [HE.out]; rfl, rfl⟩
          · have hb2 : hi < x.toNat := by omega
            clear hb
            go_wp2_with fail
            rw [Exit.noGoto_ret]
            go_ret2
            exact ⟨by rw [HE.out]; rfl, rfl⟩
        · have HE : Hid (run (s.data.toList.drop (i + 1)) (m - 1) 128 191 = r) := by
            have := HRN.out
            rw [run, if_neg hm0, if_neg hb] at this
            exact this
          have hb1 : ¬ x.toNat < lo := fun h => hb (.inl h)
          have hb2 : ¬ hi < x.toNat := fun h => hb (.inr h)
          have hm1 : (m : Int) - 1 = ((m - 1 : Nat) : Int) := by omega
          clear hb
          go_wp2_with fail
          go_roundg (s.size - (i + 1))
          case measure => omega
          case rel => exact ⟨i + 1, m - 1, 128, 191, rfl, rfl, rfl, rfl, rfl, by go_num, by omega, by omega, by omega, by omega, rfl, HE.out⟩
    · have HE : Hid (r = (m, true)) := by
        have e : s.data.toList.drop i = [] := List.drop_eq_nil_of_le (by simp; omega)
        rw [e] at hrn
        exact hrn.symm
      clear hrn
      go_wp2_with fail
      rw [Exit.noGoto_ret]
      go_ret2
      exact ⟨by rw [HE.out]; rfl, rfl⟩

theorem Valid_any (s : ByteArray) (w : World) (hs : s.size ≤ 9223372036854775807) :
    Calls Try.prog 55 #[.string s] w fun e w' => e = .returned (.bool ((need s.data.toList).2 && decide ((need s.data.toList).1 = 0))) ∧ w = w' := by
  have HN := hid (Need_any s w hs)
  generalize need s.data.toList = r at *
  obtain ⟨m, b⟩ := r
  simp only at HN
  cases b with
  | true =>
    go_enter Try.func55, Try.ntmps55
    go_wp2_with fail
    refine HN.out.mono ?_
    rintro e w' ⟨rfl, rfl⟩
    by_cases hm : m = 0
    · subst hm
      go_wp2_with fail
      go_ret
      exact ⟨rfl, rfl⟩
    · have hm0' : ((m : Int) == 0) = false := beq_eq_false_iff_ne.mpr (by omega)
      go_wp2_with fail
      go_ret
      exact ⟨by simp [hm], rfl⟩
  | false =>
    go_enter Try.func55, Try.ntmps55
    go_wp2_with fail
    refine HN.out.mono ?_
    rintro e w' ⟨rfl, rfl⟩
    go_wp2_with fail
    go_ret
    exact ⟨rfl, rfl⟩
end Go.Proofs.Ytnngibflnnmioaa
