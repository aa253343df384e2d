/-
  The walks of package leb: what U, S take.
-/
import Derived.Test.YtjagimlmclejeaaJ4
import Derived.Deep.DeepCutAuto
namespace Go.Proofs.Ytjagimlmclejeaa
open Go.RowKit Go.Proofs.Leb Go.Proofs.Own
set_option maxRecDepth 100000
set_option maxHeartbeats 2000000

theorem okU_int (x left : Nat) : (((x : Int) / 2 ^ left) == 0) = okU x left := by
  have e : ((x : Int) / 2 ^ left) = ((x / 2 ^ left : Nat) : Int) := by push_cast; rfl
  rw [e, Bool.eq_iff_iff]
  unfold okU
  simp only [beq_iff_eq, decide_eq_true_eq]
  omega
theorem okS_int (x left : Nat) : ((((x : Int) / 2 ^ (left - 1)) == 0) || (((x : Int) / 2 ^ (left - 1)) == 127 / 2 ^ (left - 1))) = okS x left := by
  have e : ((x : Int) / 2 ^ (left - 1)) = ((x / 2 ^ (left - 1) : Nat) : Int) := by push_cast; rfl
  have e2 : ((127 : Int) / 2 ^ (left - 1)) = ((127 / 2 ^ (left - 1) : Nat) : Int) := by push_cast; rfl
  rw [e, e2, Bool.eq_iff_iff]
  unfold okS
  simp only [Bool.or_eq_true, beq_iff_eq, decide_eq_true_eq]
  omega

def clamp (n : Int) : Nat := (min (max n 1) 64).toNat
/-- the value of digits, in 64 bits -/
def vm (l : List UInt8) : Nat := val l % 18446744073709551616

/-- what digits comes to -/
def res (ok : Nat → Nat → Bool) (bs : List UInt8) (bits : Nat) : Value :=
  .tuple #[.int .u64 (if (scan ok bs bits).2 = 0 then vm (bs.take (scan ok bs bits).1) else 0 : Nat), .int .i64 (scan ok bs bits).1, .int .i64 (scan ok bs bits).2]

theorem and127 (x : Nat) (hx : x < 256) : Go.bits .and .u8 (x : Int) 127 = ((x % 128 : Nat) : Int) := by
  have h := u8_and_nat x 127 hx (by omega)
  rw [show ((127 : Nat) : Int) = 127 from rfl] at h
  rw [h, nat_mask7]

theorem cast_mm (d P M : Nat) : (((d : Int) * (P : Int)) % (M : Int)) = ((d * P % M : Nat) : Int) := by rw [Int.natCast_emod, Int.natCast_mul]
theorem digit_or (bs : List UInt8) (i : Nat) (hi : i ≤ 9) (hl : i < bs.length) :
    Go.bits .or .u64 (vm (bs.take i) : Int) (IntKind.u64.wrap (IntKind.u64.wrap (Go.bits .and .u8 (bs[i].toNat : Int) 127) * 2 ^ (7 * i))) = (vm (bs.take (i + 1)) : Int) := by
  have hx := u8_lt bs[i]
  have hv := val_take_lt bs i
  have hle : (128 : Nat) ^ i ≤ 128 ^ 9 := Nat.pow_le_pow_right (by decide) hi
  have h9 : (128 : Nat) ^ 9 = 9223372036854775808 := by decide
  rw [h9] at hle
  have e1 : vm (bs.take i) = val (bs.take i) := Nat.mod_eq_of_lt (by omega)
  rw [e1, and127 _ hx, IntKind.wrap_u64, IntKind.wrap_u64]
  have e2 : (((bs[i].toNat % 128 : Nat) : Int) % 18446744073709551616) = ((bs[i].toNat % 128 : Nat) : Int) := by omega
  have e3 : ((2 : Int) ^ (7 * i)) = ((128 ^ i : Nat) : Int) := by rw [pow128]; push_cast; rfl
  rw [e2, e3]
  unfold vm
  rw [val_take_succ bs i hl]
  have e4 : ((((bs[i].toNat % 128 : Nat) : Int) * ((128 ^ i : Nat) : Int)) % 18446744073709551616) = (((bs[i].toNat % 128) * 128 ^ i % 18446744073709551616 : Nat) : Int) := cast_mm _ _ 18446744073709551616
  rw [e4, u64_or_nat _ _ (by omega) (Nat.mod_lt _ (by decide))]
  congr 1
  have hdiv : (18446744073709551616 : Nat) = 128 ^ i * (18446744073709551616 / 128 ^ i) := by
    have : (18446744073709551616 : Nat) = 2 ^ 64 := by decide
    rw [this, pow128]
    exact (Nat.mul_div_cancel' (Nat.pow_dvd_pow 2 (by omega))).symm
  rw [Nat.or_comm, nat_join (7 * i)]
  · have hc : 128 ^ i * (bs[i].toNat % 128) = bs[i].toNat % 128 * 128 ^ i := Nat.mul_comm _ _
    rw [hc]
    generalize hD : bs[i].toNat % 128 * 128 ^ i = D
    have hm : D % 18446744073709551616 = 128 ^ i * (bs[i].toNat % 128 % (18446744073709551616 / 128 ^ i)) := by
      rw [← hD, hdiv, Nat.mul_comm (bs[i].toNat % 128), Nat.mul_mod_mul_left]
      rw [← hdiv]
    have hlt : bs[i].toNat % 128 % (18446744073709551616 / 128 ^ i) < 18446744073709551616 / 128 ^ i := Nat.mod_lt _ (Nat.div_pos (by omega) (by omega))
    have hb : 128 ^ i * (bs[i].toNat % 128 % (18446744073709551616 / 128 ^ i)) + 128 ^ i ≤ 18446744073709551616 := by
      have := Nat.mul_le_mul_left (128 ^ i) hlt
      rw [Nat.mul_succ, ← hdiv] at this
      exact this
    omega
  · rw [pow128, hdiv, pow128, Nat.mul_comm (bs[i].toNat % 128), Nat.mul_mod_mul_left]
    exact Nat.mul_mod_right _ _
  · rw [← pow128]; exact hv

theorem scan_end {ok : Nat → Nat → Bool} {bs : List UInt8} {wd : Nat} (h : bs.length ≤ stop bs) (hm : bs.length < most wd) : scan ok bs wd = (bs.length, 1) := by
  have := stop_le bs
  unfold scan
  rw [if_pos (by omega), dif_neg (by omega)]
theorem scan_bad {ok : Nat → Nat → Bool} {bs : List UInt8} {wd i : Nat} (hi : i ≤ stop bs) (hl : i < bs.length) (hm : i + 1 = most wd) (hk : ok bs[i].toNat (wd - 7 * i) = false) : scan ok bs wd = (i, 2) := by
  unfold scan
  rcases Nat.lt_or_ge i (stop bs) with h | h
  · rw [if_neg (by omega)]; simp; omega
  · have e : stop bs = i := by omega
    subst e
    rw [if_pos (by omega), dif_pos hl, if_pos ⟨hm, hk⟩]

theorem res_bad {ok : Nat → Nat → Bool} {bs : List UInt8} {wd n e : Nat} (h : scan ok bs wd = (n, e)) (he : e ≠ 0) : res ok bs wd = .tuple #[.int .u64 0, .int .i64 n, .int .i64 e] := by
  unfold res; rw [h]; simp only [if_neg he]; rfl
theorem res_ok {ok : Nat → Nat → Bool} {bs : List UInt8} {wd n : Nat} (h : scan ok bs wd = (n, 0)) : res ok bs wd = .tuple #[.int .u64 (vm (bs.take n)), .int .i64 n, .int .i64 0] := by
  unfold res; rw [h]; rfl

theorem okU_big (x l : Nat) (h : 128 ≤ x) (hl : l ≤ 7) (hk : okU x l = true) : False := by
  simp only [okU, decide_eq_true_eq] at hk
  have : (2 : Nat) ^ l ≤ 2 ^ 7 := Nat.pow_le_pow_right (by decide) hl
  have h2 := Nat.div_pos (show 2 ^ l ≤ x by omega) (Nat.pow_pos (by decide))
  omega
theorem okS_big (x l : Nat) (h : 128 ≤ x) (hl : l ≤ 7) (hk : okS x l = true) : False := by
  simp only [okS, decide_eq_true_eq] at hk
  have h1 : (2 : Nat) ^ (l - 1) ≤ 2 ^ 6 := Nat.pow_le_pow_right (by decide) (by omega)
  have h0 : 0 < (2 : Nat) ^ (l - 1) := Nat.pow_pos (by decide)
  have h2 := Nat.div_pos (show 2 ^ (l - 1) ≤ x by omega) h0
  have h3 : 2 ^ (l - 1) ∣ 128 := by rw [show (128 : Nat) = 2 ^ 7 from rfl]; exact Nat.pow_dvd_pow 2 (by omega)
  have h4 : 127 / 2 ^ (l - 1) < 128 / 2 ^ (l - 1) := by
    rw [Nat.div_lt_iff_lt_mul h0, Nat.div_mul_cancel h3]; omega
  have h5 : 128 / 2 ^ (l - 1) ≤ x / 2 ^ (l - 1) := Nat.div_le_div_right h
  omega

end Go.Proofs.Ytjagimlmclejeaa
