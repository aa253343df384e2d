/-
  Plain mathematics: a number by sevens, digit by digit, and what fits a range.
-/
import Derived.Test.YtlmimlnflcfccaaLeb
import Derived.Test.YtlmimlnflcfccaaSpnG
namespace Go.Proofs.Dig
open Go.Proofs.Leb

theorem p4 : (128 : Nat) ^ 4 * 128 = 34359738368 := by decide
theorem p32 {w : Nat} (h : w < 4294967296) : w < 2 ^ 32 := h
theorem pow7 (i : Nat) : (2 : Nat) ^ (7 * i) = 128 ^ i := by rw [Nat.pow_mul]

/-- the digits known so far -/
def sum (bs : List UInt8) (i : Nat) : Nat := val (bs.take (i + 1))
def shift (i : Nat) : Nat := min (7 * i + 7) 32
def left (bs : List UInt8) (i : Nat) : Nat := if (bs.getD i 0).toNat < 128 then 0 else 4 - i

theorem last_iff {v m : Nat} {bs : List UInt8} (hb : bs = encU v m) (i : Nat) (hi : i < bs.length) : bs[i].toNat < 128 ↔ i + 1 = bs.length := by
  have hs : stop bs + 1 = bs.length := by
    have := encU_stop [] v m
    rw [List.append_nil, ← hb] at this
    exact this
  constructor
  · intro h
    have := (stop_step bs i (by omega) hi).1 h
    omega
  · intro h
    have e : stop bs = i := by omega
    have := stop_at bs (by omega)
    simp only [e] at this
    exact this

theorem left_eq {bs : List UInt8} {i : Nat} (hi : i < bs.length) : left bs i = if bs[i].toNat < 128 then 0 else 4 - i := by
  unfold left
  rw [List.getD_eq_getElem?_getD, List.getElem?_eq_getElem hi]
  rfl

theorem val_mod (bs : List UInt8) (i : Nat) (hi : i < bs.length) : sum bs i = val bs % 128 ^ (i + 1) := by
  have h := val_append (bs.take (i + 1)) (bs.drop (i + 1))
  rw [List.take_append_drop] at h
  have hl : (bs.take (i + 1)).length = i + 1 := by simp; omega
  rw [hl] at h
  have hlt := val_take_lt bs (i + 1)
  unfold sum
  rw [h, Nat.add_mul_mod_self_left, Nat.mod_eq_of_lt hlt]

theorem pow_shift {i : Nat} (h : i ≤ 3) : 2 ^ shift i = 128 ^ (i + 1) := by
  unfold shift
  rw [show min (7 * i + 7) 32 = 7 * (i + 1) by omega, pow7]
theorem pow_shift4 : 2 ^ shift 4 = 4294967296 := by decide

theorem facts {v m : Nat} {bs : List UInt8} (hb : bs = encU v m) (h5 : bs.length ≤ 5) (hv : v < 4294967296) (i : Nat) (hi : i < bs.length) :
    sum bs i < 2 ^ shift i ∧ v % 2 ^ shift i = sum bs i ∧ v / 2 ^ shift i < 128 ^ left bs i ∧ (0 < left bs i → i ≤ 3 ∧ left bs i = 4 - i) ∧ (i + 1 = bs.length → sum bs i = v ∧ left bs i = 0) := by
  have hval : val bs = v := by rw [hb]; exact encU_val v m
  have hm := val_mod bs i hi
  rw [hval] at hm
  have hl := left_eq hi
  have hlast := last_iff hb i hi
  have hvl : v < 128 ^ bs.length := by rw [← hval]; exact val_lt bs
  have h128 : 0 < 128 ^ (i + 1) := Nat.pow_pos (by decide)
  have hmlt := Nat.mod_lt v h128
  rcases Nat.lt_or_ge i 4 with h3 | h3
  · have hp := pow_shift (i := i) (by omega)
    rw [hp]
    refine ⟨by omega, by omega, ?_, ?_, ?_⟩
    · rw [hl]
      split
      · rename_i hx
        have hlen := hlast.mp hx
        rw [← hlen] at hvl
        rw [Nat.div_eq_of_lt hvl]; decide
      · apply Nat.div_lt_of_lt_mul
        rw [← Nat.pow_add, show i + 1 + (4 - i) = 4 + 1 by omega, Nat.pow_succ, p4]
        omega
    · rw [hl]; split
      · intro h; omega
      · intro _; omega
    · intro hlen
      rw [← hlen] at hvl
      refine ⟨by rw [hm, Nat.mod_eq_of_lt hvl], ?_⟩
      rw [hl, if_pos (hlast.mpr hlen)]
  · obtain rfl : i = 4 := by omega
    have hlen : 4 + 1 = bs.length := by omega
    rw [← hlen] at hvl
    have hs : sum bs 4 = v := by rw [hm, Nat.mod_eq_of_lt hvl]
    have hl0 : left bs 4 = 0 := by rw [hl, if_pos (hlast.mpr hlen)]
    rw [pow_shift4, hs, hl0]
    refine ⟨hv, Nat.mod_eq_of_lt hv, by rw [Nat.div_eq_of_lt hv]; decide, fun h => by omega, fun _ => ⟨rfl, rfl⟩⟩

/-- a number in the range fits at each digit -/
theorem fits {v m lo hi : Nat} {bs : List UInt8} (hb : bs = encU v m) (h5 : bs.length ≤ 5) (hv : v < 4294967296) (i : Nat) (h : i < bs.length) (h1 : lo ≤ v) (h2 : v ≤ hi) :
    Span.look lo hi (sum bs i) (shift i) (left bs i) 32 = true := by
  obtain ⟨f1, f2, f3, _, _⟩ := facts hb h5 hv i h
  exact (Span.look_fit _ _ _ _ _ _ f1).mpr ⟨v, h1, h2, p32 hv, f2, f3⟩
/-- where it does not fit no number begins so -/
theorem none {v m lo hi : Nat} {bs : List UInt8} (hb : bs = encU v m) (h5 : bs.length ≤ 5) (hv : v < 4294967296) (hh : hi < 4294967296) (i : Nat) (h : i < bs.length)
    (hn : Span.look lo hi (sum bs i) (shift i) (left bs i) 32 = false) (w : Nat) (h1 : lo ≤ w) (h2 : w ≤ hi) : w ≠ sum bs i ∧ (0 < left bs i → w % 2 ^ shift i ≠ sum bs i) := by
  obtain ⟨f1, f2, f3, f4, _⟩ := facts hb h5 hv i h
  have hno : ¬ Span.fit lo hi (sum bs i) (shift i) (left bs i) 32 := fun hf => by
    rw [(Span.look_fit _ _ _ _ _ _ f1).mpr hf] at hn
    cases hn
  constructor
  · intro e
    exact hno ⟨w, h1, h2, p32 (by omega), by rw [e]; exact Nat.mod_eq_of_lt f1, by rw [e, Nat.div_eq_of_lt f1]; exact Nat.pow_pos (by decide)⟩
  · intro hl e
    obtain ⟨h3, h4⟩ := f4 hl
    refine hno ⟨w, h1, h2, p32 (by omega), e, ?_⟩
    rw [h4, pow_shift h3]
    apply Nat.div_lt_of_lt_mul
    rw [← Nat.pow_add, show i + 1 + (4 - i) = 4 + 1 by omega, Nat.pow_succ, p4]
    omega
/-- what fits to the end is in the range -/
theorem inside {v m lo hi : Nat} {bs : List UInt8} (hb : bs = encU v m) (h5 : bs.length ≤ 5) (hv : v < 4294967296) (i : Nat) (h : i + 1 = bs.length)
    (hf : Span.look lo hi (sum bs i) (shift i) (left bs i) 32 = true) : lo ≤ v ∧ v ≤ hi := by
  obtain ⟨f1, f2, f3, _, f5⟩ := facts hb h5 hv i (by omega)
  obtain ⟨u, u1, u2, u3, u4, u5⟩ := (Span.look_fit _ _ _ _ _ _ f1).mp hf
  obtain ⟨e1, e2⟩ := f5 h
  rw [e2, Nat.pow_zero] at u5
  have hz : u / 2 ^ shift i = 0 := Nat.lt_one_iff.mp u5
  have hu := Nat.div_add_mod u (2 ^ shift i)
  rw [hz, u4, e1, Nat.mul_zero] at hu
  omega
theorem sum_succ (bs : List UInt8) (i : Nat) (hi : i < bs.length) : sum bs i = val (bs.take i) + 128 ^ i * (bs[i].toNat % 128) := val_take_succ bs i hi
end Go.Proofs.Dig
