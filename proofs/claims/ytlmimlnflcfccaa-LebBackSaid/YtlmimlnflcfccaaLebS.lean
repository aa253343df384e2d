/-
  LebSmall.
-/
import Derived.Test.YtlmimlnflcfccaaLebA
import Derived.Test.YtlmimlnflcfccaaFrm
import Derived.Deep.DeepCutAuto
namespace Go.Proofs.Ytlmimlnflcfccaa
open Go.RowKit Go.Proofs.Leb Go.Proofs.Own
set_option maxRecDepth 100000
set_option maxHeartbeats 2000000

theorem within (x lo hi : Int) (h1 : x < hi) (h2 : lo ≤ x) : (decide (hi ≤ x) || decide (x < lo)) = false := by
  rw [decide_eq_false (by omega), decide_eq_false (by omega)]; rfl
theorem clamp_nat (a : Nat) (h1 : 1 ≤ a) (h2 : a ≤ 64) : clamp (a : Int) = a := by unfold clamp; omega

theorem lebSmall_walk (v : Value) (bs : List UInt8) (n more : Int) (w : World) (hr : Rd w v bs) (hb : bs.length ≤ 9223372036854775807) (n1 : 0 ≤ n) (n2 : n < 256) (m1 : 0 ≤ more) (m2 : more < 256) :
    Calls Try.prog 6 #[v, .int .u8 n, .int .u8 more] w (True' w) := by
  have HR := hid hr
  obtain ⟨p, rfl⟩ := Int.eq_ofNat_of_zero_le n1
  obtain ⟨q, rfl⟩ := Int.eq_ofNat_of_zero_le m1
  obtain ⟨a, cap, rfl, -⟩ := hr
  by_cases hl : (60 : Int) < bs.length
  · go_enter Try.func6, Try.ntmps6
    go_wp2_with fail
    go_ret
    exact ⟨rfl, Upd.refl _ _⟩
  · have hl8 : bs.length ≤ 100000000 := by omega
    have hlb : bs.length ≤ 60 := by omega
    obtain ⟨c, hc⟩ : ∃ c : Nat, 1 + (p : Int) % 64 = c := ⟨1 + p % 64, by omega⟩
    obtain ⟨d, hd⟩ : ∃ d : Nat, min 64 ((c : Int) + q % 64) = d := ⟨min 64 (c + q % 64), by omega⟩
    have c1 : 1 ≤ c := by omega
    have c2 : c ≤ d := by omega
    have c3 : d ≤ 64 := by omega
    have H1 := hid (U_any _ bs c w HR.out hl8 (by omega) (by omega))
    have H2 := hid (U_any _ bs d w HR.out hl8 (by omega) (by omega))
    have H3 := hid (S_any _ bs c w HR.out hl8 (by omega) (by omega))
    have H4 := hid (S_any _ bs d w HR.out hl8 (by omega) (by omega))
    rw [clamp_nat c c1 (by omega)] at H1 H3
    rw [clamp_nat d (by omega) c3] at H2 H4
    have H5 := hid (awake1_any w)
    go_enter Try.func6, Try.ntmps6
    go_wp2_with fail
    refine H1.out.mono ?_
    rintro e w' ⟨rfl, rfl⟩
    go_wp2_with fail
    refine H2.out.mono ?_
    rintro e w' ⟨rfl, rfl⟩
    go_upto_region 7 with fail
    go_cut [9, 10, 11, 12, 13, 14, 69] (fun _ _ _ _ _ _ s wx => s = .bool false ∧ w = wx)
    case first =>
      by_cases h0 : dE okU bs c = 0
      · have hs := small_decU c1 c2 h0
        have e1 : dE okU bs d = 0 := by
          have := congrArg (fun t => t.2.2) hs
          exact this.trans h0
        have e2 : uV bs c = uV bs d := (congrArg (fun t => t.1) hs).symm
        have e3 : dN okU bs c = dN okU bs d := (congrArg (fun t => t.2.1) hs).symm
        have e4 : ((uV bs d : Int) / 2 ^ c != 0) = false := by
          have := decU_lt bs c c1
          rw [← e2]
          have e5 : ((uV bs c : Int) / 2 ^ c) = ((uV bs c / 2 ^ c : Nat) : Int) := by simp
          rw [e5, show uV bs c / 2 ^ c = 0 from Nat.div_eq_of_lt this]
          rfl
        clear hs
        by_cases h64 : (c : Int) < 64
        · go_wp2_with fail
          go_meet
          exact ⟨rfl, rfl⟩
        · go_wp2_with fail
          go_meet
          exact ⟨rfl, rfl⟩
      · go_wp2_with fail
        go_meet
        exact ⟨rfl, rfl⟩
    case rest =>
      obtain ⟨rfl, rfl⟩ := hcut
      go_wp2_with fail
      refine H3.out.mono ?_
      rintro e w' ⟨rfl, rfl⟩
      go_wp2_with fail
      refine H4.out.mono ?_
      rintro e w' ⟨rfl, rfl⟩
      go_upto_region 11 with fail
      go_cut [10, 11, 13, 14, 15, 16, 117] (fun _ _ _ _ _ _ s wx => s = .bool false ∧ w = wx)
      case first =>
        by_cases h0 : dE okS bs c = 0
        · have hs := small_decS c1 c2 h0
          have e1 : dE okS bs d = 0 := by
            have := congrArg (fun t => t.2.2) hs
            exact this.trans h0
          have e2 : sV bs c = sV bs d := (congrArg (fun t => t.1) hs).symm
          have e3 : dN okS bs c = dN okS bs d := (congrArg (fun t => t.2.1) hs).symm
          clear hs
          by_cases h64 : (c : Int) < 64
          · have hr := decS_range bs c c1
            have h63 : (2 : Nat) ^ (c - 1) ≤ 2 ^ 62 := Nat.pow_le_pow_right (by decide) (by omega)
            have h62 : (2 : Nat) ^ 62 = 4611686018427387904 := by decide
            have hsv : sV bs c = (decS bs c).1 := rfl
            rw [← hsv, e2] at hr
            have hz : ((2 ^ (c - 1) : Nat) : Int) = (2 : Int) ^ (c - 1) := by simp
            rw [h62] at h63
            have e6 : sV bs d < wrap64 (2 ^ (c - 1)) := by
              rw [← hz]; unfold wrap64; omega
            have e7 : wrap64 (-2 ^ (c - 1)) ≤ sV bs d := by
              rw [← hz]; unfold wrap64; omega
            clear hr h63 h62 hsv hz
            have E6 := hid e6
            have E7 := hid e7
            clear e6 e7
            go_wp2_with fail
            go_meet
            exact ⟨congrArg Value.bool (within _ _ _ E6.out E7.out), rfl⟩
          · go_wp2_with fail
            go_meet
            exact ⟨rfl, rfl⟩
        · go_wp2_with fail
          go_meet
          exact ⟨rfl, rfl⟩
      case rest =>
        obtain ⟨rfl, rfl⟩ := hcut
        go_wp2_with fail
        refine H5.out.mono ?_
        rintro e w' ⟨rfl, hn⟩
        go_wp2_with fail
        go_ret
        exact ⟨rfl, hn⟩
end Go.Proofs.Ytlmimlnflcfccaa
