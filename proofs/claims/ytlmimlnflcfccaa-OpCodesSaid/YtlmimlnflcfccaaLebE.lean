/-
  The walks of the document's answers for numbers by sevens: taking.
-/
import Derived.Test.YtlmimlnflcfccaaLebR
namespace Go.Proofs.Ytlmimlnflcfccaa
open Go.RowKit Go.Proofs.Leb Go.Proofs.Own
set_option maxRecDepth 100000
set_option maxHeartbeats 2000000

/-! ### taking -/
theorem refMost_any (n : Int) (m : Nat) (w : World) (hm : n = m) (h2 : m ≤ 64) :
    Calls Try.prog 62 #[.int .i64 n] w fun e w' => e = .returned (.int .i64 (most m)) ∧ w = w' := by
  subst hm
  by_cases h : (m : Int) % 7 = 0
  · have hb : ((m : Int) % 7 == 0) = true := by rw [beq_iff_eq]; exact h
    have HM : Hid ((m : Int) / 7 = (most m : Nat)) := by show (m : Int) / 7 = (most m : Nat); unfold most; omega
    clear h
    go_enter Try.func62, Try.ntmps62
    go_wp2_with fail
    go_ret
    exact ⟨by rw [← HM.out]; rfl, rfl⟩
  · have hb : ((m : Int) % 7 == 0) = false := by rw [beq_eq_false_iff_ne]; exact h
    have HM : Hid ((m : Int) / 7 + 1 = (most m : Nat)) := by show (m : Int) / 7 + 1 = (most m : Nat); unfold most; omega
    clear h
    go_enter Try.func62, Try.ntmps62
    go_wp2_with fail
    go_ret
    exact ⟨by rw [← HM.out]; rfl, rfl⟩

/-- what End tells: it doesn't look at the bits beyond -/
def eN (bs : List UInt8) (wd : Nat) : Nat := if stop bs < most wd then (if stop bs < bs.length then stop bs + 1 else bs.length) else most wd - 1
def eE (bs : List UInt8) (wd : Nat) : Nat := if stop bs < most wd then (if stop bs < bs.length then 0 else 1) else 2

theorem refEnd_any (v : Value) (bs : List UInt8) (wd : Nat) (w : World) (hr : Rd w v bs) (hl : bs.length ≤ 100000000) (n1 : 1 ≤ wd) (n2 : wd ≤ 64) :
    Calls Try.prog 61 #[v, .int .i64 wd] w fun e w' => e = .returned (.tuple #[.int .i64 (eN bs wd), .int .i64 (eE bs wd)]) ∧ w = w' := by
  obtain ⟨a, cap, rfl, hcap, hn, hcell⟩ := hr
  have hm := most_bits wd n1
  have hm2 : most wd ≤ 10 := by unfold most; omega
  have HM := hid (fun w => refMost_any wd wd w rfl n2)
  generalize hMM : most wd = m at *
  have HMM := hid hMM
  clear hMM
  go_enter Try.func61, Try.ntmps61
  go_wp2_with fail

  go_loop [6] (fun c => ∃ i : Nat, c = .int .i64 i ∧ i ≤ m ∧ i ≤ stop bs) (fun c => m - (intOf c).toNat)
  case atStart => exact ⟨0, rfl, Nat.zero_le _, Nat.zero_le _⟩
  case round =>
    obtain ⟨i, rfl, him, his⟩ := hrel
    have hsl := stop_le bs
    by_cases hlt : (i : Int) < m
    · by_cases hlen : (bs.length : Int) ≤ i
      · have HN : Hid (eN bs wd = bs.length ∧ eE bs wd = 1) := by
          show eN bs wd = bs.length ∧ eE bs wd = 1
          have := HMM.out
          unfold eN eE
          rw [if_pos (by omega), if_neg (by omega), if_pos (by omega), if_neg (by omega)]
          exact ⟨rfl, rfl⟩
        go_wp2_with (go_at_call 62; refine (HM.out _).mono ?_; rintro e w' ⟨rfl, rfl⟩)
        go_ret2
        exact ⟨by rw [HN.out.1, HN.out.2]; rfl, rfl⟩
      · have hil : i < bs.length := by omega
        obtain ⟨b, o, rfl, hce⟩ := hcell (by intro h; subst h; simp at hil)
        have hc := hce i hil
        have hst := stop_step bs i his hil
        have hx := u8_lt bs[i]
        generalize hxe : bs[i] = x at *
        clear hxe hcell hce
        unfold cb at hc
        by_cases hx1 : (x.toNat : Int) < 128
        · have HN : Hid (eN bs wd = i + 1 ∧ eE bs wd = 0) := by
            show eN bs wd = i + 1 ∧ eE bs wd = 0
            have := HMM.out
            have e := hst.1 (by omega)
            unfold eN eE
            rw [if_pos (by omega), if_pos (by omega), if_pos (by omega), if_pos (by omega)]
            exact ⟨by omega, rfl⟩
          go_wp2_with (go_at_call 62; refine (HM.out _).mono ?_; rintro e w' ⟨rfl, rfl⟩)
          go_ret2
          exact ⟨by rw [HN.out.1, HN.out.2]; rfl, rfl⟩
        · have h1 := hst.2 (by omega)
          go_wp2_with (go_at_call 62; refine (HM.out _).mono ?_; rintro e w' ⟨rfl, rfl⟩)
          go_round
          case rel => exact ⟨i + 1, by go_num, by omega, h1⟩
          case measure => simp [intOf]; omega
    · have HN : Hid (((eN bs wd : Nat) : Int) = (m : Int) - 1 ∧ eE bs wd = 2) := by
        show ((eN bs wd : Nat) : Int) = (m : Int) - 1 ∧ eE bs wd = 2
        have := HMM.out
        unfold eN eE
        rw [if_neg (by omega), if_neg (by omega)]
        exact ⟨by omega, rfl⟩
      go_wp2_with (go_at_call 62; refine (HM.out _).mono ?_; rintro e w' ⟨rfl, rfl⟩)
      go_ret2
      exact ⟨by rw [HN.out.1, HN.out.2]; rfl, rfl⟩

theorem scan_e (ok : Nat → Nat → Bool) (bs : List UInt8) (wd : Nat) (h : eE bs wd ≠ 0) : dN ok bs wd = eN bs wd ∧ dE ok bs wd = eE bs wd := by
  have := stop_le bs
  unfold dN dE scan
  unfold eE at h
  unfold eE eN
  split at h
  · rename_i h1
    split at h
    · simp at h
    · rename_i h2
      rw [if_pos h1, dif_neg h2, if_pos h1, if_neg h2, if_pos h1, if_neg h2]
      exact ⟨rfl, rfl⟩
  · rename_i h1
    rw [if_neg h1, if_neg h1, if_neg h1]
    exact ⟨rfl, rfl⟩
theorem scan_0 (bs : List UInt8) (wd : Nat) (h : eE bs wd = 0) : eN bs wd = stop bs + 1 ∧ stop bs < bs.length ∧ stop bs < most wd := by
  have := stop_le bs
  unfold eE at h
  unfold eN
  split at h
  · rename_i h1
    split at h
    · rename_i h2
      rw [if_pos h1, if_pos h2]
      exact ⟨rfl, h2, h1⟩
    · simp at h
  · simp at h
theorem val_drop_step (l : List UInt8) (j : Nat) (h : j < l.length) : val (l.drop j) = l[j].toNat % 128 + 128 * val (l.drop (j + 1)) := by
  rw [List.drop_eq_getElem_cons h]; rfl
theorem val_drop_le (l : List UInt8) (j : Nat) : val (l.drop j) ≤ val l := by
  have h := val_append (l.take j) (l.drop j)
  rw [List.take_append_drop] at h
  have : 1 * val (l.drop j) ≤ 128 ^ (l.take j).length * val (l.drop j) := Nat.mul_le_mul_right _ (Nat.pow_pos (by decide))
  omega

theorem refU_any (v : Value) (bs : List UInt8) (wd : Nat) (w : World) (hr : Rd w v bs) (hl : bs.length ≤ 100000000) (n1 : 1 ≤ wd) (n2 : wd ≤ 64) :
    Calls Try.prog 24 #[v, .int .i64 wd] w fun e w' => e = .returned (.tuple #[.int .u64 (uV bs wd), .int .i64 (dN okU bs wd), .int .i64 (dE okU bs wd)]) ∧ w = w' := by
  have HE := hid (fun w' (h : Rd w' v bs) => refEnd_any v bs wd w' h hl n1 n2)
  have HM := hid (fun w => refMost_any wd wd w rfl n2)
  have HR := hid hr
  have hlt := decU_lt bs wd n1
  have hp : (2 : Nat) ^ wd ≤ 2 ^ 64 := Nat.pow_le_pow_right (by decide) n2
  by_cases h0 : eE bs wd = 0
  · obtain ⟨hn, hs1, hs2⟩ := scan_0 bs wd h0
    have hm := most_bits wd n1
    have hm2 : most wd ≤ 10 := by unfold most; omega
    have HE2 : Hid (∀ w', Rd w' v bs → Calls Try.prog 61 #[v, .int .i64 wd] w' fun e w'' => e = .returned (.tuple #[.int .i64 ((stop bs : Int) + 1), .int .i64 0]) ∧ w' = w'') := by
      intro w' h
      have := HE.out w' h
      rw [hn, h0] at this
      exact this
    have hsc : ∀ ok, (stop bs + 1 = most wd → ok bs[stop bs].toNat (wd - 7 * stop bs) = true) → scan ok bs wd = (stop bs + 1, 0) := fun ok h => scan_mk hs1 hs2 h
    have hbad : ∀ ok, stop bs + 1 = most wd → ok bs[stop bs].toNat (wd - 7 * stop bs) = false → scan ok bs wd = (stop bs, 2) := fun ok h1 h2 => scan_bad (Nat.le_refl _) hs1 h1 h2
    have hx1 := stop_at bs hs1
    obtain ⟨a, cap, rfl, hcap, hn', hcell⟩ := hr
    obtain ⟨b, o, rfl, hce⟩ := hcell (by intro h; subst h; simp at hs1)
    clear hcell HE hn h0
    have hc := hce (stop bs) hs1
    unfold cb at hc
    generalize hs : stop bs = s at *
    generalize hx : bs[s] = x at *
    generalize hM : most wd = m at *
    have HX := hid hx
    have HS := hid hs
    have HMM := hid hM
    have HSC := hid hsc
    have HBAD := hid hbad
    have HCE := hid hce
    clear hx hs hM hsc hbad hce hn'
    by_cases hlast : s + 1 = m
    · have hq : ((s : Int) + 1 == (m : Int)) = true := by rw [beq_iff_eq]; omega
      have HL := hid hlast
      have hw1 : 1 ≤ wd - 7 * s := by omega
      have hw2 : wd - 7 * s ≤ 7 := by omega
      clear hlast
      have hcx := hc
      by_cases hok : okU x.toNat (wd - 7 * s) = true
      · have hq2 : (((x.toNat : Int) / 2 ^ (wd - 7 * s)) != 0) = false := by
          have := okU_int x.toNat (wd - 7 * s)
          rw [hok] at this
          simpa using this
        have HF : Hid ((uV bs wd = val ((bs.take (s + 1)).drop 0) ∧ dN okU bs wd = s + 1 ∧ dE okU bs wd = 0)) := by
          have h := HSC.out okU (fun _ => hok)
          show _ ∧ _ ∧ _
          unfold uV decU dN dE
          rw [h]
          exact ⟨by rw [if_pos rfl]; rfl, rfl, rfl⟩
        have HU : Hid (val (bs.take (s + 1)) < 18446744073709551616) := by
          have h := HF.out.1
          show _ < _
          rw [List.drop_zero] at h
          rw [← h]
          unfold uV
          omega
        clear hok hlt hp
        go_enter Try.func24, Try.ntmps24
        go_wp2_with (first | (go_at_call 61; refine (HE2.out _ HR.out).mono ?_; rintro e w' ⟨rfl, rfl⟩) | (go_at_call 62; refine (HM.out _).mono ?_; rintro e w' ⟨rfl, rfl⟩))
        go_loop [10, 11] (fun v c => ∃ (j : Nat) (z : Int), c = .int .i64 z ∧ j ≤ s + 1 ∧ z = (j : Int) - 1 ∧ v = .int .u64 (val ((bs.take (s + 1)).drop j) : Nat)) (fun _ c => ((intOf c) + 1).toNat)
        case atStart => exact ⟨s + 1, s, rfl, Nat.le_refl _, by omega, by rw [List.drop_of_length_le (by rw [List.length_take]; omega)]; rfl⟩
        case round =>
          obtain ⟨j, z, rfl, hj, hz, rfl⟩ := hrel
          rcases j with _ | k
          · obtain rfl : z = -1 := by omega
            clear hz
            go_wp2_with fail
            go_ret3
            exact ⟨by rw [HF.out.1, HF.out.2.1, HF.out.2.2]; rfl, rfl⟩
          · obtain rfl : z = (k : Int) := by omega
            clear hz
            have hkl : k < bs.length := by omega
            have hck := HCE.out k hkl
            unfold cb at hck
            have hstep := val_drop_step (bs.take (s + 1)) k (by rw [List.length_take]; omega)
            have hle := val_drop_le (bs.take (s + 1)) k
            rw [List.getElem_take] at hstep
            have hy := u8_lt bs[k]
            have HT : Hid (.int .u64 ((val ((bs.take (s + 1)).drop (k + 1)) : Int) * 128 + (bs[k].toNat : Int) % 128) = Value.int .u64 ((val ((bs.take (s + 1)).drop k) : Nat) : Int)) := by
              show Value.int .u64 _ = Value.int .u64 _
              rw [hstep]
              congr 1
              omega
            have hV : val ((bs.take (s + 1)).drop (k + 1)) ≤ 144115188075855871 := by have := HU.out; omega
            clear hstep hle hcx
            generalize val ((bs.take (s + 1)).drop (k + 1)) = V at *
            generalize bs[k] = y at *
            go_wp2_with fail
            go_round
            case rel => exact ⟨k, k - 1, rfl, by omega, rfl, HT.out⟩
            case measure => simp [intOf]
      · have hok' := (Bool.not_eq_true _).mp hok
        have hq2 : (((x.toNat : Int) / 2 ^ (wd - 7 * s)) != 0) = true := by
          have := okU_int x.toNat (wd - 7 * s)
          rw [hok'] at this
          simpa using this
        have HF : Hid (uV bs wd = 0 ∧ dN okU bs wd = s ∧ dE okU bs wd = 2) := by
          have h := HBAD.out okU HL.out hok'
          show _ ∧ _ ∧ _
          unfold uV decU dN dE
          rw [h]
          exact ⟨rfl, rfl, rfl⟩
        clear hok hok' hlt hp
        go_enter Try.func24, Try.ntmps24
        go_wp2_with (first | (go_at_call 61; refine (HE2.out _ HR.out).mono ?_; rintro e w' ⟨rfl, rfl⟩) | (go_at_call 62; refine (HM.out _).mono ?_; rintro e w' ⟨rfl, rfl⟩))
        go_ret3
        exact ⟨by rw [HF.out.1, HF.out.2.1, HF.out.2.2]; rfl, rfl⟩
    · have hq : ((s : Int) + 1 == (m : Int)) = false := by rw [beq_eq_false_iff_ne]; omega
      have hcx := hc
      have HF : Hid ((uV bs wd = val ((bs.take (s + 1)).drop 0) ∧ dN okU bs wd = s + 1 ∧ dE okU bs wd = 0)) := by
        have h := HSC.out okU (fun h => by omega)
        show _ ∧ _ ∧ _
        unfold uV decU dN dE
        rw [h]
        exact ⟨by rw [if_pos rfl]; rfl, rfl, rfl⟩
      have HU : Hid (val (bs.take (s + 1)) < 18446744073709551616) := by
        have h := HF.out.1
        show _ < _
        rw [List.drop_zero] at h
        rw [← h]
        unfold uV
        omega
      clear hlt hp
      go_enter Try.func24, Try.ntmps24
      go_wp2_with (first | (go_at_call 61; refine (HE2.out _ HR.out).mono ?_; rintro e w' ⟨rfl, rfl⟩) | (go_at_call 62; refine (HM.out _).mono ?_; rintro e w' ⟨rfl, rfl⟩))
      go_loop [10, 11] (fun v c => ∃ (j : Nat) (z : Int), c = .int .i64 z ∧ j ≤ s + 1 ∧ z = (j : Int) - 1 ∧ v = .int .u64 (val ((bs.take (s + 1)).drop j) : Nat)) (fun _ c => ((intOf c) + 1).toNat)
      case atStart => exact ⟨s + 1, s, rfl, Nat.le_refl _, by omega, by rw [List.drop_of_length_le (by rw [List.length_take]; omega)]; rfl⟩
      case round =>
        obtain ⟨j, z, rfl, hj, hz, rfl⟩ := hrel
        rcases j with _ | k
        · obtain rfl : z = -1 := by omega
          clear hz
          go_wp2_with fail
          go_ret3
          exact ⟨by rw [HF.out.1, HF.out.2.1, HF.out.2.2]; rfl, rfl⟩
        · obtain rfl : z = (k : Int) := by omega
          clear hz
          have hkl : k < bs.length := by omega
          have hck := HCE.out k hkl
          unfold cb at hck
          have hstep := val_drop_step (bs.take (s + 1)) k (by rw [List.length_take]; omega)
          have hle := val_drop_le (bs.take (s + 1)) k
          rw [List.getElem_take] at hstep
          have hy := u8_lt bs[k]
          have HT : Hid (.int .u64 ((val ((bs.take (s + 1)).drop (k + 1)) : Int) * 128 + (bs[k].toNat : Int) % 128) = Value.int .u64 ((val ((bs.take (s + 1)).drop k) : Nat) : Int)) := by
            show Value.int .u64 _ = Value.int .u64 _
            rw [hstep]
            congr 1
            omega
          have hV : val ((bs.take (s + 1)).drop (k + 1)) ≤ 144115188075855871 := by have := HU.out; omega
          clear hstep hle hcx
          generalize val ((bs.take (s + 1)).drop (k + 1)) = V at *
          generalize bs[k] = y at *
          go_wp2_with fail
          go_round
          case rel => exact ⟨k, k - 1, rfl, by omega, rfl, HT.out⟩
          case measure => simp [intOf]
  · obtain ⟨e1, e2⟩ := scan_e okU bs wd h0
    have hb : ((eE bs wd : Int) != 0) = true := by rw [bne_iff_ne]; omega
    have HV : Hid (uV bs wd = 0) := by
      have : ¬ (scan okU bs wd).2 = 0 := by show ¬ dE okU bs wd = 0; omega
      show uV bs wd = 0
      unfold uV decU
      simp only [if_neg this]
    rw [HV.out, e1, e2]
    clear e1 e2 h0 hlt hr
    go_enter Try.func24, Try.ntmps24
    go_wp2_with (go_at_call 61; refine (HE.out _ HR.out).mono ?_; rintro e w' ⟨rfl, rfl⟩)
    go_ret3
    exact ⟨rfl, rfl⟩
end Go.Proofs.Ytlmimlnflcfccaa
