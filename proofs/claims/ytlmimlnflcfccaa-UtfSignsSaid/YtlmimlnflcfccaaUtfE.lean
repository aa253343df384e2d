/-
  Plain mathematics of texts: signs by their numbers; texts one behind the other.
-/
import Derived.Test.YtlmimlnflcfccaaUtf
namespace Go.Proofs.Utf

def enc (n : Nat) : List UInt8 :=
  if n < 128 then [UInt8.ofNat n]
  else if n < 2048 then [UInt8.ofNat (192 + n / 64), UInt8.ofNat (128 + n % 64)]
  else if n < 65536 then [UInt8.ofNat (224 + n / 4096), UInt8.ofNat (128 + n / 64 % 64), UInt8.ofNat (128 + n % 64)]
  else [UInt8.ofNat (240 + n / 262144), UInt8.ofNat (128 + n / 4096 % 64), UInt8.ofNat (128 + n / 64 % 64), UInt8.ofNat (128 + n % 64)]

theorem u8_of (n : Nat) (h : n < 256) : (UInt8.ofNat n).toNat = n := by
  simp only [UInt8.toNat_ofNat']; omega

theorem tail_take : ∀ (t : List UInt8) (m lo hi k : Nat), tail t m lo hi = true → tail (t.take k) m lo hi = true
  | t, 0, _, _, k, _ => by cases t.take k <;> rfl
  | [], m + 1, _, _, k, _ => by simp [tail]
  | y :: t, m + 1, lo, hi, 0, _ => by simp [tail]
  | y :: t, m + 1, lo, hi, k + 1, h => by
    simp only [List.take_succ_cons, tail, Bool.and_eq_true] at h ⊢
    exact ⟨h.1, tail_take t m _ _ k h.2⟩
theorem tail_append : ∀ (t b : List UInt8) (m lo hi : Nat), m ≤ t.length → tail (t ++ b) m lo hi = tail t m lo hi
  | t, b, 0, _, _, _ => by cases t <;> cases b <;> rfl
  | [], b, m + 1, _, _, h => by simp at h
  | y :: t, b, m + 1, lo, hi, h => by
    simp only [List.cons_append, tail]
    rw [tail_append t b m 128 191 (by simpa using h)]

theorem need_append : ∀ (k : Nat) (a b : List UInt8), a.length ≤ k → need a = (0, true) → need (a ++ b) = need b
  | _, [], b, _, _ => rfl
  | 0, _ :: _, _, h, _ => by simp at h
  | k + 1, x :: t, b, h, hn => by
    rw [List.cons_append, need]
    rw [need] at hn
    cases hc : cls x.toNat with
    | none => rw [hc] at hn; cases hn
    | some p =>
      obtain ⟨m, lo, hi⟩ := p
      rw [hc] at hn
      dsimp only at hn ⊢
      by_cases ht : tail t m lo hi = true
      · rw [if_pos ht] at hn
        by_cases hl : t.length < m
        · rw [if_pos hl] at hn
          simp only [Prod.mk.injEq, and_true] at hn
          omega
        · rw [if_neg hl] at hn
          rw [tail_append t b m lo hi (by omega), if_pos ht, if_neg (by simp; omega), List.drop_append_of_le_length (by omega)]
          exact need_append k _ b (by simp at h ⊢; omega) hn
      · rw [if_neg ht] at hn
        cases hn

/-- a sign: a first byte of a class, and just the bytes that must follow -/
def Whole (l : List UInt8) : Prop := ∃ x t lo hi, l = x :: t ∧ cls x.toNat = some (t.length, lo, hi) ∧ tail t t.length lo hi = true

theorem Whole.need {l : List UInt8} (h : Whole l) : Utf.need l = (0, true) := by
  obtain ⟨x, t, lo, hi, rfl, hc, ht⟩ := h
  rw [Utf.need, hc]
  dsimp only
  rw [if_pos ht, if_neg (Nat.lt_irrefl _), List.drop_length, Utf.need]
theorem Whole.cut {l : List UInt8} (h : Whole l) {k : Nat} (h1 : 1 ≤ k) (h2 : k < l.length) : Utf.need (l.take k) = (l.length - k, true) := by
  obtain ⟨x, t, lo, hi, rfl, hc, ht⟩ := h
  obtain ⟨j, rfl⟩ : ∃ j, k = j + 1 := ⟨k - 1, by omega⟩
  rw [List.take_succ_cons, Utf.need, hc]
  dsimp only
  have hl : (t.take j).length = j := by simp at h2 ⊢; omega
  rw [if_pos (tail_take t _ _ _ j ht), if_pos (by rw [hl]; simpa using h2), hl]
  simp

theorem cls_mk1 {x : Nat} (h1 : 194 ≤ x) (h2 : x < 224) : cls x = some (1, 128, 191) := by
  rcases cls_cases x with ⟨h, e⟩ | ⟨h, e⟩ | ⟨h, e⟩ | ⟨h, e⟩ | ⟨h, e⟩ | ⟨h, e⟩ | ⟨h, e⟩ | ⟨h, e⟩ | ⟨h, e⟩
  all_goals first | exact e | omega

theorem enc_whole (n : Nat) (h : is n = true) : Whole (enc n) := by
  unfold is at h
  rw [decide_eq_true_eq] at h
  unfold enc
  split
  · rename_i h1
    refine ⟨_, [], 0, 0, rfl, ?_, rfl⟩
    rw [u8_of _ (by omega)]
    unfold cls
    rw [if_pos h1]; rfl
  · split
    · refine ⟨_, _, 128, 191, rfl, ?_, ?_⟩
      · rw [u8_of _ (by omega)]
        exact cls_mk1 (by omega) (by omega)
      · simp only [List.length_cons, List.length_nil, tail, u8_of _ (show 128 + n % 64 < 256 by omega), Bool.and_true, decide_eq_true_eq]
        omega
    · split
      · have e1 : (UInt8.ofNat (224 + n / 4096)).toNat = 224 + n / 4096 := u8_of _ (by omega)
        have e2 : (UInt8.ofNat (128 + n / 64 % 64)).toNat = 128 + n / 64 % 64 := u8_of _ (by omega)
        have e3 : (UInt8.ofNat (128 + n % 64)).toNat = 128 + n % 64 := u8_of _ (by omega)
        rcases cls_cases (224 + n / 4096) with ⟨hh, e⟩ | ⟨hh, e⟩ | ⟨hh, e⟩ | ⟨hh, e⟩ | ⟨hh, e⟩ | ⟨hh, e⟩ | ⟨hh, e⟩ | ⟨hh, e⟩ | ⟨hh, e⟩
        all_goals first
          | (exfalso; omega)
          | (refine ⟨_, _, _, _, rfl, by rw [e1]; exact e, ?_⟩
             simp only [List.length_cons, List.length_nil, tail, e2, e3, Bool.and_true, Bool.and_eq_true, decide_eq_true_eq]
             omega)
      · have e1 : (UInt8.ofNat (240 + n / 262144)).toNat = 240 + n / 262144 := u8_of _ (by omega)
        have e2 : (UInt8.ofNat (128 + n / 4096 % 64)).toNat = 128 + n / 4096 % 64 := u8_of _ (by omega)
        have e3 : (UInt8.ofNat (128 + n / 64 % 64)).toNat = 128 + n / 64 % 64 := u8_of _ (by omega)
        have e4 : (UInt8.ofNat (128 + n % 64)).toNat = 128 + n % 64 := u8_of _ (by omega)
        rcases cls_cases (240 + n / 262144) with ⟨hh, e⟩ | ⟨hh, e⟩ | ⟨hh, e⟩ | ⟨hh, e⟩ | ⟨hh, e⟩ | ⟨hh, e⟩ | ⟨hh, e⟩ | ⟨hh, e⟩ | ⟨hh, e⟩
        all_goals first
          | (exfalso; omega)
          | (refine ⟨_, _, _, _, rfl, by rw [e1]; exact e, ?_⟩
             simp only [List.length_cons, List.length_nil, tail, e2, e3, e4, Bool.and_true, Bool.and_eq_true, decide_eq_true_eq]
             omega)

theorem enc_none (n : Nat) (h : is n = false) (hn : n ≤ 1114111) : need (enc n) = (0, false) := by
  unfold is at h
  rw [decide_eq_false_iff_not] at h
  have h1 : 55296 ≤ n := by omega
  have h2 : n ≤ 57343 := by omega
  unfold enc
  rw [if_neg (by omega), if_neg (by omega), if_pos (by omega)]
  have e1 : (UInt8.ofNat (224 + n / 4096)).toNat = 237 := by rw [u8_of _ (by omega)]; omega
  have e2 : (UInt8.ofNat (128 + n / 64 % 64)).toNat = 128 + n / 64 % 64 := u8_of _ (by omega)
  rw [need, e1, show cls 237 = some (2, 128, 159) by decide]
  dsimp only
  rw [if_neg]
  simp only [tail, e2, Bool.and_eq_true, decide_eq_true_eq]
  omega
theorem enc_len (n : Nat) : 1 ≤ (enc n).length ∧ (enc n).length ≤ 4 := by
  unfold enc
  split
  · simp
  · split
    · simp
    · split <;> simp
end Go.Proofs.Utf
