/-
  The walks of the document's answers for numbers by sevens: taking.
-/
import Derived.Test.YtkfohickmdkplaaJ41
import Derived.Test.YtkfohickmdkplaaJ16
namespace Go.Proofs.Ytkfohickmdkplaa
open Go.RowKit Go.Proofs.Leb Go.Proofs.Own
set_option maxRecDepth 100000
set_option maxHeartbeats 2000000

/-! ### taking -/
/-- what End tells: it doesn't look at the bits beyond -/
def eN (bs : List UInt8) (wd : Nat) : Nat := if stop bs < most wd then (if stop bs < bs.length then stop bs + 1 else bs.length) else most wd - 1
def eE (bs : List UInt8) (wd : Nat) : Nat := if stop bs < most wd then (if stop bs < bs.length then 0 else 1) else 2

theorem scan_e (ok : Nat → Nat → Bool) (bs : List UInt8) (wd : Nat) (h : eE bs wd ≠ 0) : dN ok bs wd = eN bs wd ∧ dE ok bs wd = eE bs wd := by
  have := stop_le bs
  unfold dN dE scan
  unfold eE at h
  unfold eE eN
  split at h
  · rename_i h1
    split at h
    · simp at h
    · rename_i h2
      rw [if_pos h1, dif_neg h2, if_pos h1, if_neg h2, if_pos h1, if_neg h2]
      exact ⟨rfl, rfl⟩
  · rename_i h1
    rw [if_neg h1, if_neg h1, if_neg h1]
    exact ⟨rfl, rfl⟩
theorem scan_0 (bs : List UInt8) (wd : Nat) (h : eE bs wd = 0) : eN bs wd = stop bs + 1 ∧ stop bs < bs.length ∧ stop bs < most wd := by
  have := stop_le bs
  unfold eE at h
  unfold eN
  split at h
  · rename_i h1
    split at h
    · rename_i h2
      rw [if_pos h1, if_pos h2]
      exact ⟨rfl, h2, h1⟩
    · simp at h
  · simp at h
theorem val_drop_step (l : List UInt8) (j : Nat) (h : j < l.length) : val (l.drop j) = l[j].toNat % 128 + 128 * val (l.drop (j + 1)) := by
  rw [List.drop_eq_getElem_cons h]; rfl
theorem val_drop_le (l : List UInt8) (j : Nat) : val (l.drop j) ≤ val l := by
  have h := val_append (l.take j) (l.drop j)
  rw [List.take_append_drop] at h
  have : 1 * val (l.drop j) ≤ 128 ^ (l.take j).length * val (l.drop j) := Nat.mul_le_mul_right _ (Nat.pow_pos (by decide))
  omega

end Go.Proofs.Ytkfohickmdkplaa

namespace Go.Proofs.Ytkfohickmdkplaa
open Go.RowKit Go.Proofs.Leb Go.Proofs.Own
set_option maxRecDepth 100000
set_option maxHeartbeats 2000000

def bit (x i : Nat) : Nat := x / 2 ^ i % 2
theorem okS_bits_fin : ∀ x : Fin 128, ∀ l : Fin 8, 1 ≤ l.val → (okS x.val l.val = true ↔ ∀ j : Fin 7, l.val ≤ j.val → bit x.val j.val = bit x.val (l.val - 1)) := by decide +kernel
theorem okS_bits (x l : Nat) (hx : x < 128) (h1 : 1 ≤ l) (h7 : l ≤ 7) : okS x l = true ↔ ∀ j, l ≤ j → j < 7 → bit x j = bit x (l - 1) := by
  have h := okS_bits_fin ⟨x, hx⟩ ⟨l, by omega⟩ h1
  simp only at h
  rw [h]
  exact ⟨fun h j h1 h2 => h ⟨j, h2⟩ h1, fun h j h1 => h j.val h1 j.isLt⟩

theorem sval_drop_step (l : List UInt8) (j : Nat) (h : j + 1 < l.length) : sval (l.drop j) = ((l[j].toNat % 128 : Nat) : Int) + 128 * sval (l.drop (j + 1)) := by
  rw [List.drop_eq_getElem_cons (by omega), sval_cons _ _ (by rw [List.length_drop]; omega)]
theorem sval_drop_bd (l : List UInt8) (h1 : -9223372036854775808 ≤ sval l) (h2 : sval l < 9223372036854775808) : ∀ j, j < l.length → -9223372036854775808 ≤ sval (l.drop j) ∧ sval (l.drop j) < 9223372036854775808 := by
  intro j
  induction j with
  | zero => intro _; simpa using ⟨h1, h2⟩
  | succ j ih =>
    intro hj
    have := ih (by omega)
    rw [sval_drop_step l j hj] at this
    omega
theorem sval_last (l : List UInt8) (s : Nat) (h : s + 1 = l.length) (hx : (l[s]'(by omega)).toNat < 128) : sval (l.drop s) = top (l[s]'(by omega)).toNat := by
  rw [List.drop_eq_getElem_cons (by omega), List.drop_of_length_le (by omega)]
  unfold sval top
  rw [Nat.mod_eq_of_lt hx]

end Go.Proofs.Ytkfohickmdkplaa
