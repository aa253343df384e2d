/-
  The walks of package leb: what U, S take.
-/
import Derived.Test.YtkfohickmdkplaaJ2
import Derived.Deep.DeepCutAuto
namespace Go.Proofs.Ytkfohickmdkplaa
open Go.RowKit Go.Proofs.Leb Go.Proofs.Own
set_option maxRecDepth 100000
set_option maxHeartbeats 2000000

theorem okU_int (x left : Nat) : (((x : Int) / 2 ^ left) == 0) = okU x left := by
  have e : ((x : Int) / 2 ^ left) = ((x / 2 ^ left : Nat) : Int) := by push_cast; rfl
  rw [e, Bool.eq_iff_iff]
  unfold okU
  simp only [beq_iff_eq, decide_eq_true_eq]
  omega
theorem okS_int (x left : Nat) : ((((x : Int) / 2 ^ (left - 1)) == 0) || (((x : Int) / 2 ^ (left - 1)) == 127 / 2 ^ (left - 1))) = okS x left := by
  have e : ((x : Int) / 2 ^ (left - 1)) = ((x / 2 ^ (left - 1) : Nat) : Int) := by push_cast; rfl
  have e2 : ((127 : Int) / 2 ^ (left - 1)) = ((127 / 2 ^ (left - 1) : Nat) : Int) := by push_cast; rfl
  rw [e, e2, Bool.eq_iff_iff]
  unfold okS
  simp only [Bool.or_eq_true, beq_iff_eq, decide_eq_true_eq]
  omega

def clamp (n : Int) : Nat := (min (max n 1) 64).toNat
/-- the value of digits, in 64 bits -/
def vm (l : List UInt8) : Nat := val l % 18446744073709551616

/-- what digits comes to -/
def res (ok : Nat → Nat → Bool) (bs : List UInt8) (bits : Nat) : Value :=
  .tuple #[.int .u64 (if (scan ok bs bits).2 = 0 then vm (bs.take (scan ok bs bits).1) else 0 : Nat), .int .i64 (scan ok bs bits).1, .int .i64 (scan ok bs bits).2]

theorem and127 (x : Nat) (hx : x < 256) : Go.bits .and .u8 (x : Int) 127 = ((x % 128 : Nat) : Int) := by
  have h := u8_and_nat x 127 hx (by omega)
  rw [show ((127 : Nat) : Int) = 127 from rfl] at h
  rw [h, nat_mask7]

theorem cast_mm (d P M : Nat) : (((d : Int) * (P : Int)) % (M : Int)) = ((d * P % M : Nat) : Int) := by rw [Int.natCast_emod, Int.natCast_mul]
theorem digit_or (bs : List UInt8) (i : Nat) (hi : i ≤ 9) (hl : i < bs.length) :
    Go.bits .or .u64 (vm (bs.take i) : Int) (IntKind.u64.wrap (IntKind.u64.wrap (Go.bits .and .u8 (bs[i].toNat : Int) 127) * 2 ^ (7 * i))) = (vm (bs.take (i + 1)) : Int) := by
  have hx := u8_lt bs[i]
  have hv := val_take_lt bs i
  have hle : (128 : Nat) ^ i ≤ 128 ^ 9 := Nat.pow_le_pow_right (by decide) hi
  have h9 : (128 : Nat) ^ 9 = 9223372036854775808 := by decide
  rw [h9] at hle
  have e1 : vm (bs.take i) = val (bs.take i) := Nat.mod_eq_of_lt (by omega)
  rw [e1, and127 _ hx, IntKind.wrap_u64, IntKind.wrap_u64]
  have e2 : (((bs[i].toNat % 128 : Nat) : Int) % 18446744073709551616) = ((bs[i].toNat % 128 : Nat) : Int) := by omega
  have e3 : ((2 : Int) ^ (7 * i)) = ((128 ^ i : Nat) : Int) := by rw [pow128]; push_cast; rfl
  rw [e2, e3]
  unfold vm
  rw [val_take_succ bs i hl]
  have e4 : ((((bs[i].toNat % 128 : Nat) : Int) * ((128 ^ i : Nat) : Int)) % 18446744073709551616) = (((bs[i].toNat % 128) * 128 ^ i % 18446744073709551616 : Nat) : Int) := cast_mm _ _ 18446744073709551616
  rw [e4, u64_or_nat _ _ (by omega) (Nat.mod_lt _ (by decide))]
  congr 1
  have hdiv : (18446744073709551616 : Nat) = 128 ^ i * (18446744073709551616 / 128 ^ i) := by
    have : (18446744073709551616 : Nat) = 2 ^ 64 := by decide
    rw [this, pow128]
    exact (Nat.mul_div_cancel' (Nat.pow_dvd_pow 2 (by omega))).symm
  rw [Nat.or_comm, nat_join (7 * i)]
  · have hc : 128 ^ i * (bs[i].toNat % 128) = bs[i].toNat % 128 * 128 ^ i := Nat.mul_comm _ _
    rw [hc]
    generalize hD : bs[i].toNat % 128 * 128 ^ i = D
    have hm : D % 18446744073709551616 = 128 ^ i * (bs[i].toNat % 128 % (18446744073709551616 / 128 ^ i)) := by
      rw [← hD, hdiv, Nat.mul_comm (bs[i].toNat % 128), Nat.mul_mod_mul_left]
      rw [← hdiv]
    have hlt : bs[i].toNat % 128 % (18446744073709551616 / 128 ^ i) < 18446744073709551616 / 128 ^ i := Nat.mod_lt _ (Nat.div_pos (by omega) (by omega))
    have hb : 128 ^ i * (bs[i].toNat % 128 % (18446744073709551616 / 128 ^ i)) + 128 ^ i ≤ 18446744073709551616 := by
      have := Nat.mul_le_mul_left (128 ^ i) hlt
      rw [Nat.mul_succ, ← hdiv] at this
      exact this
    omega
  · rw [pow128, hdiv, pow128, Nat.mul_comm (bs[i].toNat % 128), Nat.mul_mod_mul_left]
    exact Nat.mul_mod_right _ _
  · rw [← pow128]; exact hv

theorem scan_end {ok : Nat → Nat → Bool} {bs : List UInt8} {wd : Nat} (h : bs.length ≤ stop bs) (hm : bs.length < most wd) : scan ok bs wd = (bs.length, 1) := by
  have := stop_le bs
  unfold scan
  rw [if_pos (by omega), dif_neg (by omega)]
theorem scan_bad {ok : Nat → Nat → Bool} {bs : List UInt8} {wd i : Nat} (hi : i ≤ stop bs) (hl : i < bs.length) (hm : i + 1 = most wd) (hk : ok bs[i].toNat (wd - 7 * i) = false) : scan ok bs wd = (i, 2) := by
  unfold scan
  rcases Nat.lt_or_ge i (stop bs) with h | h
  · rw [if_neg (by omega)]; simp; omega
  · have e : stop bs = i := by omega
    subst e
    rw [if_pos (by omega), dif_pos hl, if_pos ⟨hm, hk⟩]

theorem res_bad {ok : Nat → Nat → Bool} {bs : List UInt8} {wd n e : Nat} (h : scan ok bs wd = (n, e)) (he : e ≠ 0) : res ok bs wd = .tuple #[.int .u64 0, .int .i64 n, .int .i64 e] := by
  unfold res; rw [h]; simp only [if_neg he]; rfl
theorem res_ok {ok : Nat → Nat → Bool} {bs : List UInt8} {wd n : Nat} (h : scan ok bs wd = (n, 0)) : res ok bs wd = .tuple #[.int .u64 (vm (bs.take n)), .int .i64 n, .int .i64 0] := by
  unfold res; rw [h]; rfl

theorem okU_big (x l : Nat) (h : 128 ≤ x) (hl : l ≤ 7) (hk : okU x l = true) : False := by
  simp only [okU, decide_eq_true_eq] at hk
  have : (2 : Nat) ^ l ≤ 2 ^ 7 := Nat.pow_le_pow_right (by decide) hl
  have h2 := Nat.div_pos (show 2 ^ l ≤ x by omega) (Nat.pow_pos (by decide))
  omega
theorem okS_big (x l : Nat) (h : 128 ≤ x) (hl : l ≤ 7) (hk : okS x l = true) : False := by
  simp only [okS, decide_eq_true_eq] at hk
  have h1 : (2 : Nat) ^ (l - 1) ≤ 2 ^ 6 := Nat.pow_le_pow_right (by decide) (by omega)
  have h0 : 0 < (2 : Nat) ^ (l - 1) := Nat.pow_pos (by decide)
  have h2 := Nat.div_pos (show 2 ^ (l - 1) ≤ x by omega) h0
  have h3 : 2 ^ (l - 1) ∣ 128 := by rw [show (128 : Nat) = 2 ^ 7 from rfl]; exact Nat.pow_dvd_pow 2 (by omega)
  have h4 : 127 / 2 ^ (l - 1) < 128 / 2 ^ (l - 1) := by
    rw [Nat.div_lt_iff_lt_mul h0, Nat.div_mul_cancel h3]; omega
  have h5 : 128 / 2 ^ (l - 1) ≤ x / 2 ^ (l - 1) := Nat.div_le_div_right h
  omega

end Go.Proofs.Ytkfohickmdkplaa

namespace Go.Proofs.Ytkfohickmdkplaa
open Go.RowKit Go.Proofs.Leb Go.Proofs.Own
set_option maxRecDepth 100000
set_option maxHeartbeats 2000000

/-- the parts of what digits comes to, and of what U and S come to -/
def dV (ok : Nat → Nat → Bool) (bs : List UInt8) (wd : Nat) : Nat := if (scan ok bs wd).2 = 0 then vm (bs.take (scan ok bs wd).1) else 0
def dN (ok : Nat → Nat → Bool) (bs : List UInt8) (wd : Nat) : Nat := (scan ok bs wd).1
def dE (ok : Nat → Nat → Bool) (bs : List UInt8) (wd : Nat) : Nat := (scan ok bs wd).2
def uV (bs : List UInt8) (wd : Nat) : Nat := (decU bs wd).1
def sV (bs : List UInt8) (wd : Nat) : Int := (decS bs wd).1

theorem clamp_bd (n : Int) : 1 ≤ clamp n ∧ clamp n ≤ 64 := by unfold clamp; omega
theorem dE_le (ok : Nat → Nat → Bool) (bs : List UInt8) (wd : Nat) : dE ok bs wd ≤ 2 := by
  unfold dE scan; split
  · split
    · split <;> simp
    · simp
  · simp
theorem dN_le (ok : Nat → Nat → Bool) (bs : List UInt8) (wd : Nat) (h : 1 ≤ wd) (h2 : wd ≤ 64) : dN ok bs wd ≤ 10 ∧ (dE ok bs wd = 0 → 1 ≤ dN ok bs wd) := by
  have := stop_le bs
  have hm : most wd ≤ 10 := by unfold most; omega
  unfold dN dE scan; split
  · split
    · split <;> simp <;> omega
    · simp; omega
  · simp; omega

theorem dV_U (bs : List UInt8) (wd : Nat) (h1 : 1 ≤ wd) (h2 : wd ≤ 64) : dV okU bs wd = uV bs wd := by
  have hl := decU_lt bs wd h1
  have hp : (2 : Nat) ^ wd ≤ 2 ^ 64 := Nat.pow_le_pow_right (by decide) h2
  have h64 : (2 : Nat) ^ 64 = 18446744073709551616 := by decide
  unfold dV uV
  unfold decU at hl ⊢
  simp only at hl ⊢
  split
  · rename_i h
    rw [if_pos h] at hl
    unfold vm
    rw [Nat.mod_eq_of_lt (by omega)]
  · rfl

/-- the bits of a number that ends in 64, with its sign -/
theorem sign_ext (bs : List UInt8) (k : Nat) (hk : k < bs.length) (hx : bs[k].toNat < 128) (h9 : k ≤ 9) (hs : k = 9 → bs[k].toNat = 0 ∨ bs[k].toNat = 127) :
    IntKind.i64.wrap (IntKind.u64.wrap ((vm (bs.take (k + 1)) : Int) * 2 ^ (64 - 7 * (k + 1)))) / 2 ^ (64 - 7 * (k + 1)) = sval (bs.take (k + 1)) := by
  rw [sval_take_succ bs k hk hx, IntKind.wrap_i64, IntKind.wrap_u64]
  have hv := val_take_lt bs k
  have e1 : vm (bs.take (k + 1)) = (val (bs.take k) + 128 ^ k * bs[k].toNat) % 18446744073709551616 := by
    unfold vm; rw [val_take_succ bs k hk, Nat.mod_eq_of_lt hx]
  rw [e1]
  unfold top
  generalize val (bs.take k) = V at hv
  generalize bs[k].toNat = x at hx hs
  have hkv : k = 0 ∨ k = 1 ∨ k = 2 ∨ k = 3 ∨ k = 4 ∨ k = 5 ∨ k = 6 ∨ k = 7 ∨ k = 8 ∨ k = 9 := by omega
  rcases hkv with rfl | rfl | rfl | rfl | rfl | rfl | rfl | rfl | rfl | rfl
  · rw [show (128 : Nat) ^ 0 = 1 by decide] at hv ⊢
    rw [show (2 : Int) ^ (64 - 7 * (0 + 1)) = 144115188075855872 by decide]
    split <;> omega
  · rw [show (128 : Nat) ^ 1 = 128 by decide] at hv ⊢
    rw [show (2 : Int) ^ (64 - 7 * (1 + 1)) = 1125899906842624 by decide]
    split <;> omega
  · rw [show (128 : Nat) ^ 2 = 16384 by decide] at hv ⊢
    rw [show (2 : Int) ^ (64 - 7 * (2 + 1)) = 8796093022208 by decide]
    split <;> omega
  · rw [show (128 : Nat) ^ 3 = 2097152 by decide] at hv ⊢
    rw [show (2 : Int) ^ (64 - 7 * (3 + 1)) = 68719476736 by decide]
    split <;> omega
  · rw [show (128 : Nat) ^ 4 = 268435456 by decide] at hv ⊢
    rw [show (2 : Int) ^ (64 - 7 * (4 + 1)) = 536870912 by decide]
    split <;> omega
  · rw [show (128 : Nat) ^ 5 = 34359738368 by decide] at hv ⊢
    rw [show (2 : Int) ^ (64 - 7 * (5 + 1)) = 4194304 by decide]
    split <;> omega
  · rw [show (128 : Nat) ^ 6 = 4398046511104 by decide] at hv ⊢
    rw [show (2 : Int) ^ (64 - 7 * (6 + 1)) = 32768 by decide]
    split <;> omega
  · rw [show (128 : Nat) ^ 7 = 562949953421312 by decide] at hv ⊢
    rw [show (2 : Int) ^ (64 - 7 * (7 + 1)) = 256 by decide]
    split <;> omega
  · rw [show (128 : Nat) ^ 8 = 72057594037927936 by decide] at hv ⊢
    rw [show (2 : Int) ^ (64 - 7 * (8 + 1)) = 2 by decide]
    split <;> omega
  · rw [show (128 : Nat) ^ 9 = 9223372036854775808 by decide] at hv ⊢
    rw [show (2 : Int) ^ (64 - 7 * (9 + 1)) = 1 by decide]
    split <;> omega

theorem wrap64_i64 (x : Int) : wrap64 x = IntKind.i64.wrap x := by rw [IntKind.wrap_i64]; unfold wrap64; rfl
theorem okS_one (x : Nat) (h : okS x 1 = true) : x = 0 ∨ x = 127 := by
  simp only [okS, decide_eq_true_eq] at h
  rw [show 1 - 1 = 0 from rfl, Nat.pow_zero, Nat.div_one, Nat.div_one] at h
  exact h

theorem sign_ext' (bs : List UInt8) (wd : Nat) (h1 : 1 ≤ wd) (h2 : wd ≤ 64) (h0 : dE okS bs wd = 0) :
    IntKind.i64.wrap (IntKind.u64.wrap ((dV okS bs wd : Int) * 2 ^ (64 - 7 * dN okS bs wd))) / 2 ^ (64 - 7 * dN okS bs wd) = sV bs wd := by
  obtain ⟨hl, hs, e, hk⟩ := scan_ok h0
  have hx := stop_at bs hl
  have h0' : (scan okS bs wd).2 = 0 := h0
  unfold dV dN sV decS
  simp only [h0', if_true]
  rw [e]
  refine sign_ext bs (stop bs) hl hx (by unfold most at hs; omega) ?_
  intro h9
  have hm : most wd = 10 := by unfold most at hs ⊢; omega
  have hw : wd - 7 * stop bs = 1 := by unfold most at hm; omega
  have := hk (by omega)
  rw [hw] at this
  exact okS_one _ this

end Go.Proofs.Ytkfohickmdkplaa
