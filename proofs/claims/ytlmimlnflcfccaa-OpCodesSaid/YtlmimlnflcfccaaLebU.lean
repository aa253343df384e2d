/-
  The walks of leb.U and leb.S.
-/
import Derived.Test.YtlmimlnflcfccaaLebD
namespace Go.Proofs.Ytlmimlnflcfccaa
open Go.RowKit Go.Proofs.Leb Go.Proofs.Own
set_option maxRecDepth 100000
set_option maxHeartbeats 2000000

/-- the parts of what digits comes to, and of what U and S come to -/
def dV (ok : Nat → Nat → Bool) (bs : List UInt8) (wd : Nat) : Nat := if (scan ok bs wd).2 = 0 then vm (bs.take (scan ok bs wd).1) else 0
def dN (ok : Nat → Nat → Bool) (bs : List UInt8) (wd : Nat) : Nat := (scan ok bs wd).1
def dE (ok : Nat → Nat → Bool) (bs : List UInt8) (wd : Nat) : Nat := (scan ok bs wd).2
def uV (bs : List UInt8) (wd : Nat) : Nat := (decU bs wd).1
def sV (bs : List UInt8) (wd : Nat) : Int := (decS bs wd).1

theorem clamp_bd (n : Int) : 1 ≤ clamp n ∧ clamp n ≤ 64 := by unfold clamp; omega
theorem dE_le (ok : Nat → Nat → Bool) (bs : List UInt8) (wd : Nat) : dE ok bs wd ≤ 2 := by
  unfold dE scan; split
  · split
    · split <;> simp
    · simp
  · simp
theorem dN_le (ok : Nat → Nat → Bool) (bs : List UInt8) (wd : Nat) (h : 1 ≤ wd) (h2 : wd ≤ 64) : dN ok bs wd ≤ 10 ∧ (dE ok bs wd = 0 → 1 ≤ dN ok bs wd) := by
  have := stop_le bs
  have hm : most wd ≤ 10 := by unfold most; omega
  unfold dN dE scan; split
  · split
    · split <;> simp <;> omega
    · simp; omega
  · simp; omega

theorem dV_U (bs : List UInt8) (wd : Nat) (h1 : 1 ≤ wd) (h2 : wd ≤ 64) : dV okU bs wd = uV bs wd := by
  have hl := decU_lt bs wd h1
  have hp : (2 : Nat) ^ wd ≤ 2 ^ 64 := Nat.pow_le_pow_right (by decide) h2
  have h64 : (2 : Nat) ^ 64 = 18446744073709551616 := by decide
  unfold dV uV
  unfold decU at hl ⊢
  simp only at hl ⊢
  split
  · rename_i h
    rw [if_pos h] at hl
    unfold vm
    rw [Nat.mod_eq_of_lt (by omega)]
  · rfl

theorem U_any (v : Value) (bs : List UInt8) (n : Int) (w : World) (hr : Rd w v bs) (hl : bs.length ≤ 100000000) (n1 : -9223372036854775808 ≤ n) (n2 : n ≤ 9223372036854775807) :
    Calls Try.prog 23 #[v, .int .i64 n] w fun e w' => e = .returned (.tuple #[.int .u64 (uV bs (clamp n)), .int .i64 (dN okU bs (clamp n)), .int .i64 (dE okU bs (clamp n))]) ∧ w = w' := by
  have hc := clamp_bd n
  have HR := hid (dV_U bs (clamp n) hc.1 hc.2)
  have HA := hid hr
  clear hr hc
  have HD : Hid (Calls Try.prog 59 #[v, .int .i64 n, .func (.func 60) #[] #[]] w fun e w' => e = .returned (.tuple #[.int .u64 (dV okU bs (clamp n)), .int .i64 (dN okU bs (clamp n)), .int .i64 (dE okU bs (clamp n))]) ∧ w = w') :=
    digitsU_any _ bs n _ HA.out hl n1 n2
  generalize clamp n = wd at *
  go_enter Try.func23, Try.ntmps23
  go_wp2_with (go_at_call 59; refine HD.out.mono ?_; rintro e w' ⟨rfl, rfl⟩)
  go_ret3
  refine ⟨?_, rfl⟩
  rw [← HR.out]; rfl

/-- the bits of a number that ends in 64, with its sign -/
theorem sign_ext (bs : List UInt8) (k : Nat) (hk : k < bs.length) (hx : bs[k].toNat < 128) (h9 : k ≤ 9) (hs : k = 9 → bs[k].toNat = 0 ∨ bs[k].toNat = 127) :
    IntKind.i64.wrap (IntKind.u64.wrap ((vm (bs.take (k + 1)) : Int) * 2 ^ (64 - 7 * (k + 1)))) / 2 ^ (64 - 7 * (k + 1)) = sval (bs.take (k + 1)) := by
  rw [sval_take_succ bs k hk hx, IntKind.wrap_i64, IntKind.wrap_u64]
  have hv := val_take_lt bs k
  have e1 : vm (bs.take (k + 1)) = (val (bs.take k) + 128 ^ k * bs[k].toNat) % 18446744073709551616 := by
    unfold vm; rw [val_take_succ bs k hk, Nat.mod_eq_of_lt hx]
  rw [e1]
  unfold top
  generalize val (bs.take k) = V at hv
  generalize bs[k].toNat = x at hx hs
  have hkv : k = 0 ∨ k = 1 ∨ k = 2 ∨ k = 3 ∨ k = 4 ∨ k = 5 ∨ k = 6 ∨ k = 7 ∨ k = 8 ∨ k = 9 := by omega
  rcases hkv with rfl | rfl | rfl | rfl | rfl | rfl | rfl | rfl | rfl | rfl
  · rw [show (128 : Nat) ^ 0 = 1 by decide] at hv ⊢
    rw [show (2 : Int) ^ (64 - 7 * (0 + 1)) = 144115188075855872 by decide]
    split <;> omega
  · rw [show (128 : Nat) ^ 1 = 128 by decide] at hv ⊢
    rw [show (2 : Int) ^ (64 - 7 * (1 + 1)) = 1125899906842624 by decide]
    split <;> omega
  · rw [show (128 : Nat) ^ 2 = 16384 by decide] at hv ⊢
    rw [show (2 : Int) ^ (64 - 7 * (2 + 1)) = 8796093022208 by decide]
    split <;> omega
  · rw [show (128 : Nat) ^ 3 = 2097152 by decide] at hv ⊢
    rw [show (2 : Int) ^ (64 - 7 * (3 + 1)) = 68719476736 by decide]
    split <;> omega
  · rw [show (128 : Nat) ^ 4 = 268435456 by decide] at hv ⊢
    rw [show (2 : Int) ^ (64 - 7 * (4 + 1)) = 536870912 by decide]
    split <;> omega
  · rw [show (128 : Nat) ^ 5 = 34359738368 by decide] at hv ⊢
    rw [show (2 : Int) ^ (64 - 7 * (5 + 1)) = 4194304 by decide]
    split <;> omega
  · rw [show (128 : Nat) ^ 6 = 4398046511104 by decide] at hv ⊢
    rw [show (2 : Int) ^ (64 - 7 * (6 + 1)) = 32768 by decide]
    split <;> omega
  · rw [show (128 : Nat) ^ 7 = 562949953421312 by decide] at hv ⊢
    rw [show (2 : Int) ^ (64 - 7 * (7 + 1)) = 256 by decide]
    split <;> omega
  · rw [show (128 : Nat) ^ 8 = 72057594037927936 by decide] at hv ⊢
    rw [show (2 : Int) ^ (64 - 7 * (8 + 1)) = 2 by decide]
    split <;> omega
  · rw [show (128 : Nat) ^ 9 = 9223372036854775808 by decide] at hv ⊢
    rw [show (2 : Int) ^ (64 - 7 * (9 + 1)) = 1 by decide]
    split <;> omega

theorem wrap64_i64 (x : Int) : wrap64 x = IntKind.i64.wrap x := by rw [IntKind.wrap_i64]; unfold wrap64; rfl
theorem okS_one (x : Nat) (h : okS x 1 = true) : x = 0 ∨ x = 127 := by
  simp only [okS, decide_eq_true_eq] at h
  rw [show 1 - 1 = 0 from rfl, Nat.pow_zero, Nat.div_one, Nat.div_one] at h
  exact h

theorem sign_ext' (bs : List UInt8) (wd : Nat) (h1 : 1 ≤ wd) (h2 : wd ≤ 64) (h0 : dE okS bs wd = 0) :
    IntKind.i64.wrap (IntKind.u64.wrap ((dV okS bs wd : Int) * 2 ^ (64 - 7 * dN okS bs wd))) / 2 ^ (64 - 7 * dN okS bs wd) = sV bs wd := by
  obtain ⟨hl, hs, e, hk⟩ := scan_ok h0
  have hx := stop_at bs hl
  have h0' : (scan okS bs wd).2 = 0 := h0
  unfold dV dN sV decS
  simp only [h0', if_true]
  rw [e]
  refine sign_ext bs (stop bs) hl hx (by unfold most at hs; omega) ?_
  intro h9
  have hm : most wd = 10 := by unfold most at hs ⊢; omega
  have hw : wd - 7 * stop bs = 1 := by unfold most at hm; omega
  have := hk (by omega)
  rw [hw] at this
  exact okS_one _ this

theorem S_any (v : Value) (bs : List UInt8) (n : Int) (w : World) (hr : Rd w v bs) (hl : bs.length ≤ 100000000) (n1 : -9223372036854775808 ≤ n) (n2 : n ≤ 9223372036854775807) :
    Calls Try.prog 26 #[v, .int .i64 n] w fun e w' => e = .returned (.tuple #[.int .i64 (sV bs (clamp n)), .int .i64 (dN okS bs (clamp n)), .int .i64 (dE okS bs (clamp n))]) ∧ w = w' := by
  have hc := clamp_bd n
  have HA := hid hr
  have HD : Hid (Calls Try.prog 59 #[v, .int .i64 n, .func (.func 63) #[] #[]] w fun e w' => e = .returned (.tuple #[.int .u64 (dV okS bs (clamp n)), .int .i64 (dN okS bs (clamp n)), .int .i64 (dE okS bs (clamp n))]) ∧ w = w') :=
    digitsS_any _ bs n _ HA.out hl n1 n2
  generalize clamp n = wd at *
  have hN := dN_le okS bs wd hc.1 hc.2
  have hE := dE_le okS bs wd
  by_cases h0 : dE okS bs wd = 0
  · have HS := hid (sign_ext' bs wd hc.1 hc.2 h0)
    have hN1 := hN.2 h0
    have hN2 := hN.1
    have hb : ((dE okS bs wd : Int) != 0) = false := by simp [h0]
    have H0 := hid h0
    clear hr h0 hN
    go_enter Try.func26, Try.ntmps26
    go_wp2_with (go_at_call 59; refine HD.out.mono ?_; rintro e w' ⟨rfl, rfl⟩)
    · have e : (64 - 7 * (dN okS bs wd : Int)).toNat = 64 - 7 * dN okS bs wd := by omega
      have hs := HS.out
      rw [← e, ← wrap64_i64] at hs
      go_ret3
      refine ⟨?_, rfl⟩
      rw [← hs]
      rfl
    · have e : 64 - 7 * dN okS bs wd = 0 := by omega
      have hs := HS.out
      rw [e, Int.pow_zero, Int.mul_one, Int.ediv_one, ← wrap64_i64] at hs
      go_ret3
      refine ⟨?_, rfl⟩
      rw [← hs]
      rfl
  · have hb : ((dE okS bs wd : Int) != 0) = true := by rw [bne_iff_ne]; omega
    have H0 := hid h0
    clear hr h0
    go_enter Try.func26, Try.ntmps26
    go_wp2_with (go_at_call 59; refine HD.out.mono ?_; rintro e w' ⟨rfl, rfl⟩)
    go_ret3
    refine ⟨?_, rfl⟩
    have e : sV bs wd = 0 := by
      have h0 : ¬ (scan okS bs wd).2 = 0 := H0.out
      unfold sV decS
      simp only [if_neg h0]
    rw [e]
    rfl
end Go.Proofs.Ytlmimlnflcfccaa
