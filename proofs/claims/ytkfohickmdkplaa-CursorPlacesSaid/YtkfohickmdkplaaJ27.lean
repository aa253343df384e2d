/-
  The walks of texts: the program's.
-/
import Derived.Test.YtkfohickmdkplaaChecked
import Derived.Test.YtkfohickmdkplaaJ2
import Derived.Test.YtkfohickmdkplaaJ26
import Derived.Deep.RegionHeld3
import Derived.Deep.DeepCutAuto
import Derived.WalkMore
import Derived.Deep.LoopGhost
namespace Go.Proofs.Ytkfohickmdkplaa
open Go.RowKit Go.Proofs.Own Go.Proofs.Utf
set_option maxRecDepth 100000
set_option maxHeartbeats 2000000

def firstV (x : Nat) : Nat × Nat × Nat × Bool := match cls x with
  | none => (0, 0, 0, false)
  | some (m, lo, hi) => (m, lo, hi, true)

theorem first_any (x : Nat) (hx : x < 256) (w : World) :
    Calls Try.prog 72 #[.int .u8 x] w fun e w' => e = .returned (.tuple #[.int .i64 (firstV x).1, .int .u8 (firstV x).2.1, .int .u8 (firstV x).2.2.1, .bool (firstV x).2.2.2]) ∧ w = w' := by
  rcases cls_cases x with ⟨h, e⟩ | ⟨h, e⟩ | ⟨h, e⟩ | ⟨h, e⟩ | ⟨h, e⟩ | ⟨h, e⟩ | ⟨h, e⟩ | ⟨h, e⟩ | ⟨h, e⟩
  all_goals
    have E0 : firstV x = (match cls x with | none => (0, 0, 0, false) | some (m, lo, hi) => (m, lo, hi, true)) := rfl
    rw [e] at E0
    simp only at E0
    have E := hid E0
    clear e E0
  all_goals first
    | (have e1 : ((x : Int) == 224) = false := beq_eq_false_iff_ne.mpr (by omega)
       have e2 : ((x : Int) == 237) = false := beq_eq_false_iff_ne.mpr (by omega)
       have e3 : ((x : Int) == 240) = false := beq_eq_false_iff_ne.mpr (by omega)
       have e4 : ((x : Int) == 244) = false := beq_eq_false_iff_ne.mpr (by omega)
       go_enter Try.func72, Try.ntmps72
       go_wp2_with fail)
    | (subst h
       go_enter Try.func72, Try.ntmps72
       go_wp2_with fail)
  all_goals
    refine bodyPost_ret (v := .tuple #[.int .i64 (firstV _).1, .int .u8 (firstV _).2.1, .int .u8 (firstV _).2.2.1, .bool (firstV _).2.2.2]) ?_ rfl ⟨rfl, rfl⟩
    rw [E.out]
    simp [results, Try.results72, go_sem]

theorem firstV_bd (x : Nat) : (firstV x).1 ≤ 3 ∧ (firstV x).2.1 < 256 ∧ (firstV x).2.2.1 < 256 := by
  unfold firstV
  rcases cls_cases x with ⟨h, e⟩ | ⟨h, e⟩ | ⟨h, e⟩ | ⟨h, e⟩ | ⟨h, e⟩ | ⟨h, e⟩ | ⟨h, e⟩ | ⟨h, e⟩ | ⟨h, e⟩ <;> rw [e] <;> simp
theorem run_first (x : UInt8) (t : List UInt8) (lo hi : Nat) : run (x :: t) 0 lo hi = if (firstV x.toNat).2.2.2 = true then run t (firstV x.toNat).1 (firstV x.toNat).2.1 (firstV x.toNat).2.2.1 else (0, false) := by
  rw [run, if_pos rfl]
  unfold firstV
  cases cls x.toNat <;> simp
theorem drop_at (s : ByteArray) (k : Nat) (h : k < s.size) : s.data.toList.drop k = s[k] :: s.data.toList.drop (k + 1) := by
  rw [List.drop_eq_getElem_cons (by simpa using h)]
  rfl

theorem Need_any (s : ByteArray) (w : World) (hs : s.size ≤ 9223372036854775807) :
    Calls Try.prog 59 #[.string s] w fun e w' => e = .returned (.tuple #[.int .i64 (need s.data.toList).1, .bool (need s.data.toList).2]) ∧ w = w' := by
  obtain ⟨r, hr⟩ : ∃ r, need s.data.toList = r := ⟨_, rfl⟩
  have hrun : run s.data.toList 0 0 0 = r := (run_need _ _ (Nat.le_refl _)).trans hr
  rw [hr]
  have HRUN := hid hrun
  clear hrun hr
  go_enter Try.func59, Try.ntmps59
  go_wp2_with fail
  go_step3
  go_wp2_with fail
  go_step3
  go_wp2_with fail
  go_loopg [4, 5, 6, 7, 12] s.size (fun k a b c d e wr => ∃ i m lo hi : Nat, k = s.size - i ∧ a = .int .i64 m ∧ b = .int .u8 lo ∧ c = .int .u8 hi ∧ d = .bool true ∧ e = .int .i64 i ∧ i ≤ s.size ∧ m ≤ 3 ∧ lo < 256 ∧ hi < 256 ∧ w = wr ∧ run (s.data.toList.drop i) m lo hi = r)
  case atStart => exact ⟨0, 0, 0, 0, by simp, rfl, rfl, rfl, rfl, rfl, Nat.zero_le _, by omega, by omega, by omega, rfl, HRUN.out⟩
  case round =>
    obtain ⟨i, m, lo, hi, rfl, rfl, rfl, rfl, rfl, rfl, hi1, hm, hlo, hhi, rfl, hrn⟩ := hrel
    by_cases hlt : i < s.size
    · rw [drop_at s i hlt] at hrn
      obtain ⟨x, hx⟩ : ∃ x, s[i] = x := ⟨_, rfl⟩
      have hx2 : s[i].toNat = x.toNat := by rw [hx]
      rw [hx] at hrn
      have hx3 := u8_lt x
      have HRN := hid hrn
      clear hrn hx
      by_cases hm0 : m = 0
      · subst hm0
        have HF := hid (first_any x.toNat hx3)
        have HRF := hid (run_first x (s.data.toList.drop (i + 1)) lo hi)
        have fb := firstV_bd x.toNat
        generalize firstV x.toNat = f at *
        obtain ⟨f1, f2, f3, f4⟩ := f
        simp only at fb HF HRF
        obtain ⟨fb1, fb2, fb3⟩ := fb
        go_wp2_with fail
        refine (HF.out _).mono ?_
        rintro e w' ⟨rfl, rfl⟩
        cases f4 with
        | true =>
          have HE : Hid (run (s.data.toList.drop (i + 1)) f1 f2 f3 = r) := by
            have := HRF.out
            rw [if_pos rfl] at this
            exact this.symm.trans HRN.out
          go_wp2_with fail
          go_roundg (s.size - (i + 1))
          case measure => omega
          case rel => exact ⟨i + 1, f1, f2, f3, rfl, rfl, rfl, rfl, rfl, by go_num, by omega, fb1, fb2, fb3, rfl, HE.out⟩
        | false =>
          have HE : Hid (r = (0, false)) := by
            have := HRF.out
            rw [if_neg (by decide)] at this
            exact HRN.out.symm.trans this
          go_wp2_with fail
          rw [Exit.noGoto_ret]
          go_ret2
          exact ⟨by rw [HE.out]; rfl, rfl⟩
      · have hm0' : ((m : Int) == 0) = false := beq_eq_false_iff_ne.mpr (by omega)
        by_cases hb : x.toNat < lo ∨ hi < x.toNat
        · have HE : Hid (r = (0, false)) := by
            have := HRN.out
            rw [run, if_neg hm0, if_pos hb] at this
            exact this.symm
          by_cases hb1 : x.toNat < lo
          · go_wp2_with fail
            rw [Exit.noGoto_ret]
            go_ret2
            exact ⟨by rw [HE.out]; rfl, rfl⟩
          · have hb2 : hi < x.toNat := by omega
            clear hb
            go_wp2_with fail
            rw [Exit.noGoto_ret]
            go_ret2
            exact ⟨by rw [HE.out]; rfl, rfl⟩
        · have HE : Hid (run (s.data.toList.drop (i + 1)) (m - 1) 128 191 = r) := by
            have := HRN.out
            rw [run, if_neg hm0, if_neg hb] at this
            exact this
          have hb1 : ¬ x.toNat < lo := fun h => hb (.inl h)
          have hb2 : ¬ hi < x.toNat := fun h => hb (.inr h)
          have hm1 : (m : Int) - 1 = ((m - 1 : Nat) : Int) := by omega
          clear hb
          go_wp2_with fail
          go_roundg (s.size - (i + 1))
          case measure => omega
          case rel => exact ⟨i + 1, m - 1, 128, 191, rfl, rfl, rfl, rfl, rfl, by go_num, by omega, by omega, by omega, by omega, rfl, HE.out⟩
    · have HE : Hid (r = (m, true)) := by
        have e : s.data.toList.drop i = [] := List.drop_eq_nil_of_le (by simp; omega)
        rw [e] at hrn
        exact hrn.symm
      clear hrn
      go_wp2_with fail
      rw [Exit.noGoto_ret]
      go_ret2
      exact ⟨by rw [HE.out]; rfl, rfl⟩

end Go.Proofs.Ytkfohickmdkplaa

namespace Go.Proofs.Ytkfohickmdkplaa
open Go.RowKit Go.Proofs.Own Go.Proofs.Utf
set_option maxRecDepth 100000
set_option maxHeartbeats 2000000

theorem retLe {p : Prop} [Decidable p] {c : Bool} (h : p ↔ c = true) : Ending.returned (.bool (decide p)) = .returned (.bool c) := by
  have : decide p = c := by rw [Bool.eq_iff_iff, decide_eq_true_eq]; exact h
  rw [this]
theorem retB {b c : Bool} (h : b = c) : Ending.returned (.bool b) = .returned (.bool c) := by rw [h]

theorem Is_any (n : Nat) (w : World) (hn : n ≤ 1000000000000) :
    Calls Try.prog 80 #[.int .i64 n] w fun e w' => e = .returned (.bool (Utf.is n)) ∧ w = w' := by
  by_cases h1 : n ≤ 1114111
  · by_cases h2 : n < 55296
    · have HV : Hid (Utf.is n = true) := by show _ = _; unfold Utf.is; rw [decide_eq_true ⟨h1, .inl h2⟩]
      go_enter Try.func80, Try.ntmps80
      go_wp2_with fail
      go_ret
      exact ⟨by rw [HV.out]; rfl, rfl⟩
    · by_cases h3 : 57343 < n
      · have HV : Hid (Utf.is n = true) := by show _ = _; unfold Utf.is; rw [decide_eq_true ⟨h1, .inr h3⟩]
        go_enter Try.func80, Try.ntmps80
        go_wp2_with fail
        go_ret
        exact ⟨by rw [HV.out]; exact retB (b := decide ((n : Int) < 55296) || decide ((57343 : Int) < n)) ((Bool.or_eq_true _ _).mpr (.inr (decide_eq_true (by omega)))), rfl⟩
      · have HV : Hid (Utf.is n = false) := by show _ = _; unfold Utf.is; rw [decide_eq_false (by omega)]
        go_enter Try.func80, Try.ntmps80
        go_wp2_with fail
        go_ret
        exact ⟨by rw [HV.out]; exact retB (b := decide ((n : Int) < 55296) || decide ((57343 : Int) < n)) (by rw [decide_eq_false (by omega : ¬ (n : Int) < 55296), decide_eq_false (by omega : ¬ (57343 : Int) < n)]; rfl), rfl⟩
  · have HV : Hid (Utf.is n = false) := by show _ = _; unfold Utf.is; rw [decide_eq_false (by omega)]
    go_enter Try.func80, Try.ntmps80
    go_wp2_with fail
    go_ret
    exact ⟨by rw [HV.out]; rfl, rfl⟩

theorem pow64 {i : Nat} (h : i ≤ 3) : 64 ^ i ≤ 262144 := by
  have : (64 : Nat) ^ 3 = 262144 := by decide
  rw [← this]; exact Nat.pow_le_pow_right (by decide) h

theorem any3_any (n g least most : Nat) (w : World) (hn : n < 4194304) (hg : g ≤ 3) (h1 : least ≤ 1114112) (h2 : most ≤ 1114112) (h3 : 0 < most) :
    Calls Try.prog 79 #[.int .i64 n, .int .i64 g, .int .i64 least, .int .i64 most] w fun e w' =>
      e = .returned (.bool (clip (wide g n n).1 (wide g n n).2 least most)) ∧ w = w' := by
  obtain ⟨r, hr⟩ : ∃ r, wide g n n = r := ⟨_, rfl⟩
  rw [hr]
  have HR := hid hr
  clear hr
  go_enter Try.func79, Try.ntmps79
  go_wp2_with fail
  go_loopg [9, 10, 11] g (fun k a b c wr => ∃ i lo hi P : Nat, k = g - i ∧ a = .int .i64 lo ∧ b = .int .i64 hi ∧ c = .int .i64 i ∧ i ≤ g ∧ P = 64 ^ i ∧ lo ≤ hi ∧ hi + 1 ≤ 4194304 * P ∧ w = wr ∧ wide (g - i) lo hi = r)
  case atStart => exact ⟨0, n, n, 1, rfl, rfl, rfl, rfl, Nat.zero_le _, rfl, Nat.le_refl _, by omega, rfl, HR.out⟩
  case round =>
    obtain ⟨i, lo, hi, P, rfl, rfl, rfl, rfl, hi1, hP, hlh, hhi, rfl, hw⟩ := hrel
    have hPb : P ≤ 262144 := by rw [hP]; exact pow64 (by omega)
    have HP := hid hP
    have HW := hid hw
    clear hP hw
    by_cases hlt : i < g
    · have HW2 : Hid (wide (g - (i + 1)) (64 * lo) (64 * hi + 63) = r) := by
        have := HW.out
        rw [show g - i = (g - (i + 1)) + 1 by omega, wide] at this
        exact this
      have HP2 : Hid (P * 64 = 64 ^ (i + 1)) := by show _ = _; rw [Nat.pow_succ, HP.out]
      go_wp2_with fail
      go_roundg (g - (i + 1))
      case measure => omega
      case rel => exact ⟨i + 1, 64 * lo, 64 * hi + 63, P * 64, rfl, by go_num, by go_num, by go_num, by omega, HP2.out, by omega, by omega, rfl, HW2.out⟩
    · have HE : Hid (r = (lo, hi)) := by
        have := HW.out
        rw [show g - i = 0 by omega, wide] at this
        exact this.symm
      go_wp2_with fail
      all_goals
        go_ret
        first
          | exact ⟨retLe (by rw [HE.out]; unfold clip; dsimp only; rw [decide_eq_true_eq]; repeat' split
                             all_goals omega), rfl⟩
          | exact ⟨retB (Eq.symm (by rw [HE.out]; unfold clip; dsimp only; rw [decide_eq_true_eq]; repeat' split
                                     all_goals omega)), rfl⟩
          | exact ⟨retB (Eq.symm (by rw [HE.out]; unfold clip; dsimp only; rw [decide_eq_false_iff_not]; repeat' split
                                     all_goals omega)), rfl⟩
end Go.Proofs.Ytkfohickmdkplaa

namespace Go.Proofs.Ytkfohickmdkplaa
open Go.RowKit Go.Proofs.Own Go.Proofs.Utf
set_option maxRecDepth 100000
set_option maxHeartbeats 2000000

theorem go_zero (t : List UInt8) (n least most : Nat) : Utf.go t 0 n least most = (decide (least ≤ n ∧ n < most) && Utf.is n) := by cases t <;> rfl

theorem begins1_any (s : ByteArray) (w : World) (hs0 : 0 < s.size) (hs : s.size ≤ 9223372036854775807) :
    Calls Try.prog 76 #[.string s, .int .i64 1] w fun e w' => e = .returned (.bool (sign s.data.toList 0)) ∧ New w w' := by
  have hrun : begins s.data.toList 0 0 128 0 128 = sign s.data.toList 0 := begins0 _
  generalize sign s.data.toList 0 = r at *
  have hd0 := drop_at s 0 hs0
  rw [List.drop_zero] at hd0
  obtain ⟨x, hx⟩ : ∃ x, s[0] = x := ⟨_, rfl⟩
  have hx2 : s[0].toNat = x.toNat := by rw [hx]
  rw [hx] at hd0
  rw [hd0] at hrun
  have hx3 := u8_lt x
  obtain ⟨w3, hw3⟩ : ∃ w3, ((w.alloc (.cells #[.int .i64 128, .int .i64 2048, .int .i64 65536, .int .i64 1114112] 3)).alloc (.cells #[.int .i64 0, .int .i64 192, .int .i64 224, .int .i64 240] 3)).alloc (.cells #[.int .i64 128, .int .i64 32, .int .i64 16, .int .i64 8] 3) = w3 := ⟨_, rfl⟩
  have HN3 : Hid (New w w3) := by show New _ _; rw [← hw3]; exact (((Upd.refl _ _).alloc _).alloc _).alloc _
  have HK : Hid (w3.cell? ⟨w.heap.size, 0, none⟩ = some (.int .i64 128)) := by
    show _ = _
    rw [← hw3]
    exact Upd.cell (S := fun _ => False) (((Upd.refl _ _).alloc _).alloc _) (show (w.alloc (.cells #[.int .i64 128, .int .i64 2048, .int .i64 65536, .int .i64 1114112] 3)).cell? ⟨w.heap.size, 0, none⟩ = _ by simp) (fun h => h)
  have HW3 := hid hw3
  clear hw3
  by_cases hb : x.toNat < 0 ∨ 0 + 128 ≤ x.toNat
  · have HE : Hid (r = false) := by rw [begins_out hb] at hrun; exact hrun.symm
    clear hrun hd0 hx
    by_cases hb1 : x.toNat < 0
    · exact absurd hb1 (Nat.not_lt_zero _)
    · have hb2 : 0 + 128 ≤ x.toNat := by omega
      have hb3 : (128 : Int) ≤ (x.toNat : Int) - 0 := by omega
      go_enter Try.func76, Try.ntmps76
      go_wp2_with fail
      go_ret
      exact ⟨by rw [HE.out]; rfl, by repeat (first | exact Upd.refl _ _ | apply Upd.alloc)⟩
  · obtain ⟨n0, hn0⟩ : ∃ n0, x.toNat - 0 = n0 := ⟨_, rfl⟩
    have HG : Hid (Utf.go (s.data.toList.drop 1) 0 n0 0 128 = r) := by
      rw [begins_in hb, hn0] at hrun
      exact hrun
    have hb1 : ¬ x.toNat < 0 := fun h => hb (.inl h)
    have hn1 : n0 < 128 := by omega
    have hn2 : (x.toNat : Int) - 0 = n0 := by omega
    clear hrun hd0 hx hn0 hb
    go_enter Try.func76, Try.ntmps76
    go_wp2_with fail
    have hlen : s.data.toList.length = s.size := by simp
    rw [HW3.out]
    go_loopg [4, 9, 10, 11] (1 - 1) (fun k _ a b _ wr => ∃ i n P : Nat, k = 1 - i ∧ a = .int .i64 n ∧ b = .int .i64 i ∧ 1 ≤ i ∧ i ≤ 1 ∧ i ≤ s.size ∧ P = 64 ^ (i - 1) ∧ n + 1 ≤ 128 * P ∧ w3 = wr ∧ Utf.go (s.data.toList.drop i) (1 - i) n 0 128 = r)
    case atStart => exact ⟨1, n0, 1, rfl, rfl, rfl, by omega, by omega, by omega, rfl, by omega, rfl, HG.out⟩
    case round =>
      obtain ⟨i, n, P, rfl, rfl, rfl, i1, i2, i3, hP, hnb, rfl, hgo⟩ := hrel
      have hPb : P ≤ 262144 := by rw [hP]; exact pow64 (by omega)
      have HP := hid hP
      have HGO := hid hgo
      have hk := HK.out
      clear hP hgo
      by_cases hlt : i < 1
      · omega
      · obtain rfl : i = 1 := by omega
        have HE : Hid ((decide (0 ≤ n ∧ n < 128) && Utf.is n) = r) := by
          have hgo := HGO.out
          rw [Nat.sub_self, go_zero] at hgo
          exact hgo
        have HI := hid (fun w => Is_any n w (by omega))
        by_cases l1 : 0 ≤ n
        · by_cases l2 : n < 128
          · rw [decide_eq_true ⟨l1, l2⟩, Bool.true_and] at HE
            rw [HE.out] at HI
            have k1 : (0 : Int) ≤ n := by omega
            have k2 : (n : Int) < 128 := by omega
            clear l1 l2
            go_wp2_with fail
            refine (HI.out _).mono ?_
            rintro e w' ⟨rfl, rfl⟩
            go_wp2_with fail
            go_ret
            exact ⟨rfl, HN3.out⟩
          · rw [decide_eq_false (by omega : ¬ (0 ≤ n ∧ n < 128)), Bool.false_and] at HE
            have k1 : (0 : Int) ≤ n := by omega
            have k2 : ((n : Int) < 128) = False := eq_false (by omega)
            clear l1 l2
            go_wp2_with fail
            go_ret
            exact ⟨by rw [← HE.out]; rfl, HN3.out⟩
        · exact absurd (Nat.zero_le n) l1

theorem begins2_any (s : ByteArray) (w : World) (hs0 : 0 < s.size) (hs : s.size ≤ 9223372036854775807) :
    Calls Try.prog 76 #[.string s, .int .i64 2] w fun e w' => e = .returned (.bool (sign s.data.toList 1)) ∧ New w w' := by
  have hrun : begins s.data.toList 1 192 32 128 2048 = sign s.data.toList 1 := begins1 _
  generalize sign s.data.toList 1 = r at *
  have hd0 := drop_at s 0 hs0
  rw [List.drop_zero] at hd0
  obtain ⟨x, hx⟩ : ∃ x, s[0] = x := ⟨_, rfl⟩
  have hx2 : s[0].toNat = x.toNat := by rw [hx]
  rw [hx] at hd0
  rw [hd0] at hrun
  have hx3 := u8_lt x
  obtain ⟨w3, hw3⟩ : ∃ w3, ((w.alloc (.cells #[.int .i64 128, .int .i64 2048, .int .i64 65536, .int .i64 1114112] 3)).alloc (.cells #[.int .i64 0, .int .i64 192, .int .i64 224, .int .i64 240] 3)).alloc (.cells #[.int .i64 128, .int .i64 32, .int .i64 16, .int .i64 8] 3) = w3 := ⟨_, rfl⟩
  have HN3 : Hid (New w w3) := by show New _ _; rw [← hw3]; exact (((Upd.refl _ _).alloc _).alloc _).alloc _
  have HK : Hid (w3.cell? ⟨w.heap.size, 1, none⟩ = some (.int .i64 2048)) := by
    show _ = _
    rw [← hw3]
    exact Upd.cell (S := fun _ => False) (((Upd.refl _ _).alloc _).alloc _) (show (w.alloc (.cells #[.int .i64 128, .int .i64 2048, .int .i64 65536, .int .i64 1114112] 3)).cell? ⟨w.heap.size, 1, none⟩ = _ by simp) (fun h => h)
  have HW3 := hid hw3
  clear hw3
  by_cases hb : x.toNat < 192 ∨ 192 + 32 ≤ x.toNat
  · have HE : Hid (r = false) := by rw [begins_out hb] at hrun; exact hrun.symm
    clear hrun hd0 hx
    by_cases hb1 : x.toNat < 192
    · go_enter Try.func76, Try.ntmps76
      go_wp2_with fail
      go_ret
      exact ⟨by rw [HE.out]; rfl, by repeat (first | exact Upd.refl _ _ | apply Upd.alloc)⟩
    · have hb2 : 192 + 32 ≤ x.toNat := by omega
      have hb3 : (32 : Int) ≤ (x.toNat : Int) - 192 := by omega
      go_enter Try.func76, Try.ntmps76
      go_wp2_with fail
      go_ret
      exact ⟨by rw [HE.out]; rfl, by repeat (first | exact Upd.refl _ _ | apply Upd.alloc)⟩
  · obtain ⟨n0, hn0⟩ : ∃ n0, x.toNat - 192 = n0 := ⟨_, rfl⟩
    have HG : Hid (Utf.go (s.data.toList.drop 1) 1 n0 128 2048 = r) := by
      rw [begins_in hb, hn0] at hrun
      exact hrun
    have hb1 : ¬ x.toNat < 192 := fun h => hb (.inl h)
    have hn1 : n0 < 32 := by omega
    have hn2 : (x.toNat : Int) - 192 = n0 := by omega
    clear hrun hd0 hx hn0 hb
    go_enter Try.func76, Try.ntmps76
    go_wp2_with fail
    have hlen : s.data.toList.length = s.size := by simp
    rw [HW3.out]
    go_loopg [4, 9, 10, 11] (2 - 1) (fun k _ a b _ wr => ∃ i n P : Nat, k = 2 - i ∧ a = .int .i64 n ∧ b = .int .i64 i ∧ 1 ≤ i ∧ i ≤ 2 ∧ i ≤ s.size ∧ P = 64 ^ (i - 1) ∧ n + 1 ≤ 128 * P ∧ w3 = wr ∧ Utf.go (s.data.toList.drop i) (2 - i) n 128 2048 = r)
    case atStart => exact ⟨1, n0, 1, rfl, rfl, rfl, by omega, by omega, by omega, rfl, by omega, rfl, HG.out⟩
    case round =>
      obtain ⟨i, n, P, rfl, rfl, rfl, i1, i2, i3, hP, hnb, rfl, hgo⟩ := hrel
      have hPb : P ≤ 262144 := by rw [hP]; exact pow64 (by omega)
      have HP := hid hP
      have HGO := hid hgo
      have hk := HK.out
      clear hP hgo
      by_cases hlt : i < 2
      · by_cases hl : i < s.size
        · have hd := drop_at s i hl
          obtain ⟨y, hy⟩ : ∃ y, s[i] = y := ⟨_, rfl⟩
          have hy2 : s[i].toNat = y.toNat := by rw [hy]
          rw [hy] at hd
          have hy3 := u8_lt y
          have hgo := HGO.out
          rw [hd, show 2 - i = (2 - (i + 1)) + 1 by omega, Utf.go] at hgo
          by_cases hq : y.toNat < 128 ∨ 191 < y.toNat
          · have HE : Hid (r = false) := by rw [if_pos hq] at hgo; exact hgo.symm
            clear hgo hd hy
            by_cases hq1 : y.toNat < 128
            · have hq3 : (y.toNat : Int) - 128 < 0 := by omega
              go_wp2_with fail
              go_ret
              exact ⟨by rw [HE.out]; rfl, HN3.out⟩
            · have hq3 : ¬ (y.toNat : Int) - 128 < 0 := by omega
              have hq4 : (63 : Int) < (y.toNat : Int) - 128 := by omega
              go_wp2_with fail
              go_ret
              exact ⟨by rw [HE.out]; rfl, HN3.out⟩
          · have HE : Hid (Utf.go (s.data.toList.drop (i + 1)) (2 - (i + 1)) (64 * n + (y.toNat - 128)) 128 2048 = r) := by rw [if_neg hq] at hgo; exact hgo
            have HP2 : Hid (P * 64 = 64 ^ (i + 1 - 1)) := by show _ = _; rw [HP.out, ← Nat.pow_succ]; congr 1; omega
            obtain ⟨e, he⟩ : ∃ e, y.toNat - 128 = e := ⟨_, rfl⟩
            have he2 : (y.toNat : Int) - 128 = e := by omega
            have he3 : e ≤ 63 := by omega
            rw [he] at HE
            clear hgo hd hy he hq
            go_wp2_with fail
            go_roundg (2 - (i + 1))
            case measure => omega
            case rel => exact ⟨i + 1, 64 * n + e, P * 64, rfl, by go_num, by go_num, by omega, by omega, by omega, HP2.out, by omega, rfl, HE.out⟩
        · have hP2 : P ≤ 4096 := by
            rw [HP.out]
            have : (64 : Nat) ^ 2 = 4096 := by decide
            rw [← this]; exact Nat.pow_le_pow_right (by decide) (by omega)
          have HA : Hid (∀ w, Calls Try.prog 79 #[.int .i64 n, .int .i64 ((2 - i : Nat) : Int), .int .i64 128, .int .i64 2048] w fun e w' => e = .returned (.bool (clip (wide (2 - i) n n).1 (wide (2 - i) n n).2 128 2048)) ∧ w = w') := fun w => any3_any n (2 - i) 128 2048 w (by omega) (by omega) (by decide) (by decide) (by decide)
          have HE : Hid (clip (wide (2 - i) n n).1 (wide (2 - i) n n).2 128 2048 = r) := by
            have hgo := HGO.out
            have e : s.data.toList.drop i = [] := List.drop_eq_nil_of_le (by omega)
            rw [e, show 2 - i = (2 - (i + 1)) + 1 by omega, Utf.go] at hgo
            rw [show 2 - i = (2 - (i + 1)) + 1 by omega]
            exact hgo
          rw [HE.out] at HA
          have hsi : (2 : Int) - i = ((2 - i : Nat) : Int) := by omega
          have hsi2 : ((2 - i : Nat) : Int) ≤ 4 := by omega
          go_wp2_with fail
          with_reducible refine (HA.out _).mono ?_
          rintro e w' ⟨rfl, rfl⟩
          go_wp2_with fail
          go_ret
          exact ⟨rfl, HN3.out⟩
      · obtain rfl : i = 2 := by omega
        have HE : Hid ((decide (128 ≤ n ∧ n < 2048) && Utf.is n) = r) := by
          have hgo := HGO.out
          rw [Nat.sub_self, go_zero] at hgo
          exact hgo
        have HI := hid (fun w => Is_any n w (by omega))
        by_cases l1 : 128 ≤ n
        · by_cases l2 : n < 2048
          · rw [decide_eq_true ⟨l1, l2⟩, Bool.true_and] at HE
            rw [HE.out] at HI
            have k1 : (128 : Int) ≤ n := by omega
            have k2 : (n : Int) < 2048 := by omega
            clear l1 l2
            go_wp2_with fail
            refine (HI.out _).mono ?_
            rintro e w' ⟨rfl, rfl⟩
            go_wp2_with fail
            go_ret
            exact ⟨rfl, HN3.out⟩
          · rw [decide_eq_false (by omega : ¬ (128 ≤ n ∧ n < 2048)), Bool.false_and] at HE
            have k1 : (128 : Int) ≤ n := by omega
            have k2 : ((n : Int) < 2048) = False := eq_false (by omega)
            clear l1 l2
            go_wp2_with fail
            go_ret
            exact ⟨by rw [← HE.out]; rfl, HN3.out⟩
        · rw [decide_eq_false (by omega : ¬ (128 ≤ n ∧ n < 2048)), Bool.false_and] at HE
          go_wp2_with fail
          go_ret
          exact ⟨by rw [← HE.out]; rfl, HN3.out⟩

theorem begins3_any (s : ByteArray) (w : World) (hs0 : 0 < s.size) (hs : s.size ≤ 9223372036854775807) :
    Calls Try.prog 76 #[.string s, .int .i64 3] w fun e w' => e = .returned (.bool (sign s.data.toList 2)) ∧ New w w' := by
  have hrun : begins s.data.toList 2 224 16 2048 65536 = sign s.data.toList 2 := begins2 _
  generalize sign s.data.toList 2 = r at *
  have hd0 := drop_at s 0 hs0
  rw [List.drop_zero] at hd0
  obtain ⟨x, hx⟩ : ∃ x, s[0] = x := ⟨_, rfl⟩
  have hx2 : s[0].toNat = x.toNat := by rw [hx]
  rw [hx] at hd0
  rw [hd0] at hrun
  have hx3 := u8_lt x
  obtain ⟨w3, hw3⟩ : ∃ w3, ((w.alloc (.cells #[.int .i64 128, .int .i64 2048, .int .i64 65536, .int .i64 1114112] 3)).alloc (.cells #[.int .i64 0, .int .i64 192, .int .i64 224, .int .i64 240] 3)).alloc (.cells #[.int .i64 128, .int .i64 32, .int .i64 16, .int .i64 8] 3) = w3 := ⟨_, rfl⟩
  have HN3 : Hid (New w w3) := by show New _ _; rw [← hw3]; exact (((Upd.refl _ _).alloc _).alloc _).alloc _
  have HK : Hid (w3.cell? ⟨w.heap.size, 2, none⟩ = some (.int .i64 65536)) := by
    show _ = _
    rw [← hw3]
    exact Upd.cell (S := fun _ => False) (((Upd.refl _ _).alloc _).alloc _) (show (w.alloc (.cells #[.int .i64 128, .int .i64 2048, .int .i64 65536, .int .i64 1114112] 3)).cell? ⟨w.heap.size, 2, none⟩ = _ by simp) (fun h => h)
  have HW3 := hid hw3
  clear hw3
  by_cases hb : x.toNat < 224 ∨ 224 + 16 ≤ x.toNat
  · have HE : Hid (r = false) := by rw [begins_out hb] at hrun; exact hrun.symm
    clear hrun hd0 hx
    by_cases hb1 : x.toNat < 224
    · go_enter Try.func76, Try.ntmps76
      go_wp2_with fail
      go_ret
      exact ⟨by rw [HE.out]; rfl, by repeat (first | exact Upd.refl _ _ | apply Upd.alloc)⟩
    · have hb2 : 224 + 16 ≤ x.toNat := by omega
      have hb3 : (16 : Int) ≤ (x.toNat : Int) - 224 := by omega
      go_enter Try.func76, Try.ntmps76
      go_wp2_with fail
      go_ret
      exact ⟨by rw [HE.out]; rfl, by repeat (first | exact Upd.refl _ _ | apply Upd.alloc)⟩
  · obtain ⟨n0, hn0⟩ : ∃ n0, x.toNat - 224 = n0 := ⟨_, rfl⟩
    have HG : Hid (Utf.go (s.data.toList.drop 1) 2 n0 2048 65536 = r) := by
      rw [begins_in hb, hn0] at hrun
      exact hrun
    have hb1 : ¬ x.toNat < 224 := fun h => hb (.inl h)
    have hn1 : n0 < 16 := by omega
    have hn2 : (x.toNat : Int) - 224 = n0 := by omega
    clear hrun hd0 hx hn0 hb
    go_enter Try.func76, Try.ntmps76
    go_wp2_with fail
    have hlen : s.data.toList.length = s.size := by simp
    rw [HW3.out]
    go_loopg [4, 9, 10, 11] (3 - 1) (fun k _ a b _ wr => ∃ i n P : Nat, k = 3 - i ∧ a = .int .i64 n ∧ b = .int .i64 i ∧ 1 ≤ i ∧ i ≤ 3 ∧ i ≤ s.size ∧ P = 64 ^ (i - 1) ∧ n + 1 ≤ 128 * P ∧ w3 = wr ∧ Utf.go (s.data.toList.drop i) (3 - i) n 2048 65536 = r)
    case atStart => exact ⟨1, n0, 1, rfl, rfl, rfl, by omega, by omega, by omega, rfl, by omega, rfl, HG.out⟩
    case round =>
      obtain ⟨i, n, P, rfl, rfl, rfl, i1, i2, i3, hP, hnb, rfl, hgo⟩ := hrel
      have hPb : P ≤ 262144 := by rw [hP]; exact pow64 (by omega)
      have HP := hid hP
      have HGO := hid hgo
      have hk := HK.out
      clear hP hgo
      by_cases hlt : i < 3
      · by_cases hl : i < s.size
        · have hd := drop_at s i hl
          obtain ⟨y, hy⟩ : ∃ y, s[i] = y := ⟨_, rfl⟩
          have hy2 : s[i].toNat = y.toNat := by rw [hy]
          rw [hy] at hd
          have hy3 := u8_lt y
          have hgo := HGO.out
          rw [hd, show 3 - i = (3 - (i + 1)) + 1 by omega, Utf.go] at hgo
          by_cases hq : y.toNat < 128 ∨ 191 < y.toNat
          · have HE : Hid (r = false) := by rw [if_pos hq] at hgo; exact hgo.symm
            clear hgo hd hy
            by_cases hq1 : y.toNat < 128
            · have hq3 : (y.toNat : Int) - 128 < 0 := by omega
              go_wp2_with fail
              go_ret
              exact ⟨by rw [HE.out]; rfl, HN3.out⟩
            · have hq3 : ¬ (y.toNat : Int) - 128 < 0 := by omega
              have hq4 : (63 : Int) < (y.toNat : Int) - 128 := by omega
              go_wp2_with fail
              go_ret
              exact ⟨by rw [HE.out]; rfl, HN3.out⟩
          · have HE : Hid (Utf.go (s.data.toList.drop (i + 1)) (3 - (i + 1)) (64 * n + (y.toNat - 128)) 2048 65536 = r) := by rw [if_neg hq] at hgo; exact hgo
            have HP2 : Hid (P * 64 = 64 ^ (i + 1 - 1)) := by show _ = _; rw [HP.out, ← Nat.pow_succ]; congr 1; omega
            obtain ⟨e, he⟩ : ∃ e, y.toNat - 128 = e := ⟨_, rfl⟩
            have he2 : (y.toNat : Int) - 128 = e := by omega
            have he3 : e ≤ 63 := by omega
            rw [he] at HE
            clear hgo hd hy he hq
            go_wp2_with fail
            go_roundg (3 - (i + 1))
            case measure => omega
            case rel => exact ⟨i + 1, 64 * n + e, P * 64, rfl, by go_num, by go_num, by omega, by omega, by omega, HP2.out, by omega, rfl, HE.out⟩
        · have hP2 : P ≤ 4096 := by
            rw [HP.out]
            have : (64 : Nat) ^ 2 = 4096 := by decide
            rw [← this]; exact Nat.pow_le_pow_right (by decide) (by omega)
          have HA : Hid (∀ w, Calls Try.prog 79 #[.int .i64 n, .int .i64 ((3 - i : Nat) : Int), .int .i64 2048, .int .i64 65536] w fun e w' => e = .returned (.bool (clip (wide (3 - i) n n).1 (wide (3 - i) n n).2 2048 65536)) ∧ w = w') := fun w => any3_any n (3 - i) 2048 65536 w (by omega) (by omega) (by decide) (by decide) (by decide)
          have HE : Hid (clip (wide (3 - i) n n).1 (wide (3 - i) n n).2 2048 65536 = r) := by
            have hgo := HGO.out
            have e : s.data.toList.drop i = [] := List.drop_eq_nil_of_le (by omega)
            rw [e, show 3 - i = (3 - (i + 1)) + 1 by omega, Utf.go] at hgo
            rw [show 3 - i = (3 - (i + 1)) + 1 by omega]
            exact hgo
          rw [HE.out] at HA
          have hsi : (3 : Int) - i = ((3 - i : Nat) : Int) := by omega
          have hsi2 : ((3 - i : Nat) : Int) ≤ 4 := by omega
          go_wp2_with fail
          with_reducible refine (HA.out _).mono ?_
          rintro e w' ⟨rfl, rfl⟩
          go_wp2_with fail
          go_ret
          exact ⟨rfl, HN3.out⟩
      · obtain rfl : i = 3 := by omega
        have HE : Hid ((decide (2048 ≤ n ∧ n < 65536) && Utf.is n) = r) := by
          have hgo := HGO.out
          rw [Nat.sub_self, go_zero] at hgo
          exact hgo
        have HI := hid (fun w => Is_any n w (by omega))
        by_cases l1 : 2048 ≤ n
        · by_cases l2 : n < 65536
          · rw [decide_eq_true ⟨l1, l2⟩, Bool.true_and] at HE
            rw [HE.out] at HI
            have k1 : (2048 : Int) ≤ n := by omega
            have k2 : (n : Int) < 65536 := by omega
            clear l1 l2
            go_wp2_with fail
            refine (HI.out _).mono ?_
            rintro e w' ⟨rfl, rfl⟩
            go_wp2_with fail
            go_ret
            exact ⟨rfl, HN3.out⟩
          · rw [decide_eq_false (by omega : ¬ (2048 ≤ n ∧ n < 65536)), Bool.false_and] at HE
            have k1 : (2048 : Int) ≤ n := by omega
            have k2 : ((n : Int) < 65536) = False := eq_false (by omega)
            clear l1 l2
            go_wp2_with fail
            go_ret
            exact ⟨by rw [← HE.out]; rfl, HN3.out⟩
        · rw [decide_eq_false (by omega : ¬ (2048 ≤ n ∧ n < 65536)), Bool.false_and] at HE
          go_wp2_with fail
          go_ret
          exact ⟨by rw [← HE.out]; rfl, HN3.out⟩

theorem begins4_any (s : ByteArray) (w : World) (hs0 : 0 < s.size) (hs : s.size ≤ 9223372036854775807) :
    Calls Try.prog 76 #[.string s, .int .i64 4] w fun e w' => e = .returned (.bool (sign s.data.toList 3)) ∧ New w w' := by
  have hrun : begins s.data.toList 3 240 8 65536 1114112 = sign s.data.toList 3 := begins3 _
  generalize sign s.data.toList 3 = r at *
  have hd0 := drop_at s 0 hs0
  rw [List.drop_zero] at hd0
  obtain ⟨x, hx⟩ : ∃ x, s[0] = x := ⟨_, rfl⟩
  have hx2 : s[0].toNat = x.toNat := by rw [hx]
  rw [hx] at hd0
  rw [hd0] at hrun
  have hx3 := u8_lt x
  obtain ⟨w3, hw3⟩ : ∃ w3, ((w.alloc (.cells #[.int .i64 128, .int .i64 2048, .int .i64 65536, .int .i64 1114112] 3)).alloc (.cells #[.int .i64 0, .int .i64 192, .int .i64 224, .int .i64 240] 3)).alloc (.cells #[.int .i64 128, .int .i64 32, .int .i64 16, .int .i64 8] 3) = w3 := ⟨_, rfl⟩
  have HN3 : Hid (New w w3) := by show New _ _; rw [← hw3]; exact (((Upd.refl _ _).alloc _).alloc _).alloc _
  have HK : Hid (w3.cell? ⟨w.heap.size, 3, none⟩ = some (.int .i64 1114112)) := by
    show _ = _
    rw [← hw3]
    exact Upd.cell (S := fun _ => False) (((Upd.refl _ _).alloc _).alloc _) (show (w.alloc (.cells #[.int .i64 128, .int .i64 2048, .int .i64 65536, .int .i64 1114112] 3)).cell? ⟨w.heap.size, 3, none⟩ = _ by simp) (fun h => h)
  have HW3 := hid hw3
  clear hw3
  by_cases hb : x.toNat < 240 ∨ 240 + 8 ≤ x.toNat
  · have HE : Hid (r = false) := by rw [begins_out hb] at hrun; exact hrun.symm
    clear hrun hd0 hx
    by_cases hb1 : x.toNat < 240
    · go_enter Try.func76, Try.ntmps76
      go_wp2_with fail
      go_ret
      exact ⟨by rw [HE.out]; rfl, by repeat (first | exact Upd.refl _ _ | apply Upd.alloc)⟩
    · have hb2 : 240 + 8 ≤ x.toNat := by omega
      have hb3 : (8 : Int) ≤ (x.toNat : Int) - 240 := by omega
      go_enter Try.func76, Try.ntmps76
      go_wp2_with fail
      go_ret
      exact ⟨by rw [HE.out]; rfl, by repeat (first | exact Upd.refl _ _ | apply Upd.alloc)⟩
  · obtain ⟨n0, hn0⟩ : ∃ n0, x.toNat - 240 = n0 := ⟨_, rfl⟩
    have HG : Hid (Utf.go (s.data.toList.drop 1) 3 n0 65536 1114112 = r) := by
      rw [begins_in hb, hn0] at hrun
      exact hrun
    have hb1 : ¬ x.toNat < 240 := fun h => hb (.inl h)
    have hn1 : n0 < 8 := by omega
    have hn2 : (x.toNat : Int) - 240 = n0 := by omega
    clear hrun hd0 hx hn0 hb
    go_enter Try.func76, Try.ntmps76
    go_wp2_with fail
    have hlen : s.data.toList.length = s.size := by simp
    rw [HW3.out]
    go_loopg [4, 9, 10, 11] (4 - 1) (fun k _ a b _ wr => ∃ i n P : Nat, k = 4 - i ∧ a = .int .i64 n ∧ b = .int .i64 i ∧ 1 ≤ i ∧ i ≤ 4 ∧ i ≤ s.size ∧ P = 64 ^ (i - 1) ∧ n + 1 ≤ 128 * P ∧ w3 = wr ∧ Utf.go (s.data.toList.drop i) (4 - i) n 65536 1114112 = r)
    case atStart => exact ⟨1, n0, 1, rfl, rfl, rfl, by omega, by omega, by omega, rfl, by omega, rfl, HG.out⟩
    case round =>
      obtain ⟨i, n, P, rfl, rfl, rfl, i1, i2, i3, hP, hnb, rfl, hgo⟩ := hrel
      have hPb : P ≤ 262144 := by rw [hP]; exact pow64 (by omega)
      have HP := hid hP
      have HGO := hid hgo
      have hk := HK.out
      clear hP hgo
      by_cases hlt : i < 4
      · by_cases hl : i < s.size
        · have hd := drop_at s i hl
          obtain ⟨y, hy⟩ : ∃ y, s[i] = y := ⟨_, rfl⟩
          have hy2 : s[i].toNat = y.toNat := by rw [hy]
          rw [hy] at hd
          have hy3 := u8_lt y
          have hgo := HGO.out
          rw [hd, show 4 - i = (4 - (i + 1)) + 1 by omega, Utf.go] at hgo
          by_cases hq : y.toNat < 128 ∨ 191 < y.toNat
          · have HE : Hid (r = false) := by rw [if_pos hq] at hgo; exact hgo.symm
            clear hgo hd hy
            by_cases hq1 : y.toNat < 128
            · have hq3 : (y.toNat : Int) - 128 < 0 := by omega
              go_wp2_with fail
              go_ret
              exact ⟨by rw [HE.out]; rfl, HN3.out⟩
            · have hq3 : ¬ (y.toNat : Int) - 128 < 0 := by omega
              have hq4 : (63 : Int) < (y.toNat : Int) - 128 := by omega
              go_wp2_with fail
              go_ret
              exact ⟨by rw [HE.out]; rfl, HN3.out⟩
          · have HE : Hid (Utf.go (s.data.toList.drop (i + 1)) (4 - (i + 1)) (64 * n + (y.toNat - 128)) 65536 1114112 = r) := by rw [if_neg hq] at hgo; exact hgo
            have HP2 : Hid (P * 64 = 64 ^ (i + 1 - 1)) := by show _ = _; rw [HP.out, ← Nat.pow_succ]; congr 1; omega
            obtain ⟨e, he⟩ : ∃ e, y.toNat - 128 = e := ⟨_, rfl⟩
            have he2 : (y.toNat : Int) - 128 = e := by omega
            have he3 : e ≤ 63 := by omega
            rw [he] at HE
            clear hgo hd hy he hq
            go_wp2_with fail
            go_roundg (4 - (i + 1))
            case measure => omega
            case rel => exact ⟨i + 1, 64 * n + e, P * 64, rfl, by go_num, by go_num, by omega, by omega, by omega, HP2.out, by omega, rfl, HE.out⟩
        · have hP2 : P ≤ 4096 := by
            rw [HP.out]
            have : (64 : Nat) ^ 2 = 4096 := by decide
            rw [← this]; exact Nat.pow_le_pow_right (by decide) (by omega)
          have HA : Hid (∀ w, Calls Try.prog 79 #[.int .i64 n, .int .i64 ((4 - i : Nat) : Int), .int .i64 65536, .int .i64 1114112] w fun e w' => e = .returned (.bool (clip (wide (4 - i) n n).1 (wide (4 - i) n n).2 65536 1114112)) ∧ w = w') := fun w => any3_any n (4 - i) 65536 1114112 w (by omega) (by omega) (by decide) (by decide) (by decide)
          have HE : Hid (clip (wide (4 - i) n n).1 (wide (4 - i) n n).2 65536 1114112 = r) := by
            have hgo := HGO.out
            have e : s.data.toList.drop i = [] := List.drop_eq_nil_of_le (by omega)
            rw [e, show 4 - i = (4 - (i + 1)) + 1 by omega, Utf.go] at hgo
            rw [show 4 - i = (4 - (i + 1)) + 1 by omega]
            exact hgo
          rw [HE.out] at HA
          have hsi : (4 : Int) - i = ((4 - i : Nat) : Int) := by omega
          have hsi2 : ((4 - i : Nat) : Int) ≤ 4 := by omega
          go_wp2_with fail
          with_reducible refine (HA.out _).mono ?_
          rintro e w' ⟨rfl, rfl⟩
          go_wp2_with fail
          go_ret
          exact ⟨rfl, HN3.out⟩
      · obtain rfl : i = 4 := by omega
        have HE : Hid ((decide (65536 ≤ n ∧ n < 1114112) && Utf.is n) = r) := by
          have hgo := HGO.out
          rw [Nat.sub_self, go_zero] at hgo
          exact hgo
        have HI := hid (fun w => Is_any n w (by omega))
        by_cases l1 : 65536 ≤ n
        · by_cases l2 : n < 1114112
          · rw [decide_eq_true ⟨l1, l2⟩, Bool.true_and] at HE
            rw [HE.out] at HI
            have k1 : (65536 : Int) ≤ n := by omega
            have k2 : (n : Int) < 1114112 := by omega
            clear l1 l2
            go_wp2_with fail
            refine (HI.out _).mono ?_
            rintro e w' ⟨rfl, rfl⟩
            go_wp2_with fail
            go_ret
            exact ⟨rfl, HN3.out⟩
          · rw [decide_eq_false (by omega : ¬ (65536 ≤ n ∧ n < 1114112)), Bool.false_and] at HE
            have k1 : (65536 : Int) ≤ n := by omega
            have k2 : ((n : Int) < 1114112) = False := eq_false (by omega)
            clear l1 l2
            go_wp2_with fail
            go_ret
            exact ⟨by rw [← HE.out]; rfl, HN3.out⟩
        · rw [decide_eq_false (by omega : ¬ (65536 ≤ n ∧ n < 1114112)), Bool.false_and] at HE
          go_wp2_with fail
          go_ret
          exact ⟨by rw [← HE.out]; rfl, HN3.out⟩
end Go.Proofs.Ytkfohickmdkplaa
