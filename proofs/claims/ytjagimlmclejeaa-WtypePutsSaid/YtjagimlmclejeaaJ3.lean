/-
  Plain mathematics of reading: what is allowed in two ways comes to the same.
-/
import Derived.Test.YtjagimlmclejeaaJ2
namespace Go.Proofs.Cur
open Go.Proofs.Leb Go.Proofs.Span

theorem byteO_congr {bs : List UInt8} {lim : Int} {may may' : UInt8 → Int → Prop} {p : Nat} (hi : Inv bs.length lim p) (h : ∀ x r, 0 ≤ r → r ≤ 1099511627776 → (may x r ↔ may' x r)) : byteO bs lim may p = byteO bs lim may' p := by
  unfold byteO
  by_cases h0 : rest lim p = 0
  · rw [if_pos h0, if_pos h0]
  · rw [if_neg h0, if_neg h0]
    by_cases hp : p < bs.length
    · rw [dif_pos hp, dif_pos hp]
      have hr := (hi.next h0 hp).rest
      have hc := h bs[p] _ hr.1 hr.2
      by_cases hm : may bs[p] (rest lim (p + 1))
      · rw [if_pos hm, if_pos (hc.1 hm)]
      · rw [if_neg hm, if_neg (fun g => hm (hc.2 g))]
    · rw [dif_neg hp, dif_neg hp]
theorem byteO_inv' {bs : List UInt8} {lim : Int} {may : UInt8 → Int → Prop} {p q : Nat} {x : UInt8} (hi : Inv bs.length lim p) (h : byteO bs lim may p = .ok x q) : Inv bs.length lim q := by
  unfold byteO at h
  split at h
  · cases h
  · split at h
    · split at h
      · cases h; exact hi.next (by assumption) (by assumption)
      · cases h
    · cases h
theorem numO_congr {bs : List UInt8} {lim : Int} {may may' : List UInt8 → UInt8 → Int → Prop} (h : ∀ ds x r, 0 ≤ r → r ≤ 1099511627776 → (may ds x r ↔ may' ds x r)) : ∀ (n : Nat) (ds : List UInt8) (p : Nat), Inv bs.length lim p → numO bs lim may n ds p = numO bs lim may' n ds p
  | 0, _, _, _ => rfl
  | n + 1, ds, p, hi => by
    unfold numO
    rw [byteO_congr hi (h ds)]
    cases hb : byteO bs lim (may' ds) p with
    | up q er => rfl
    | ok x q =>
      simp only [Out.bind]
      split
      · rfl
      · exact numO_congr h n _ q (byteO_inv' hi hb)
theorem comes_congr {f g : Nat → Int → Prop} (h : ∀ m r, 0 ≤ r → r ≤ 1099511627776 → (f m r ↔ g m r)) (x most : Nat) (r : Int) (h0 : 0 ≤ r) (h1 : r ≤ 1099511627776) : comes f x most r ↔ comes g x most r := by
  unfold comes
  split
  · exact h 0 r h0 h1
  · constructor
    · rintro ⟨j, a, b, c, d⟩
      exact ⟨j, a, b, c, (h j _ (by unfold behind; split <;> omega) (by unfold behind; split <;> omega)).1 d⟩
    · rintro ⟨j, a, b, c, d⟩
      exact ⟨j, a, b, c, (h j _ (by unfold behind; split <;> omega) (by unfold behind; split <;> omega)).2 d⟩
theorem uintO_congr {bs : List UInt8} {lim : Int} {S S' : Int → Nat → Prop} {p : Nat} (hi : Inv bs.length lim p) (h : ∀ r n, 0 ≤ r → r ≤ 1099511627776 → n < 4294967296 → (S r n ↔ S' r n)) : uintO bs lim S p = uintO bs lim S' p := by
  refine numO_congr (fun ds x r h0 h1 => ?_) _ _ _ hi
  unfold mayU
  refine comes_congr (fun m r h0 h1 => ?_) _ _ _ h0 h1
  unfold fits
  constructor
  · rintro ⟨n, a, b, c⟩; exact ⟨n, (h r n h0 h1 b).1 a, b, c⟩
  · rintro ⟨n, a, b, c⟩; exact ⟨n, (h r n h0 h1 b).2 a, b, c⟩
theorem sintO_congr {bs : List UInt8} {lim : Int} {S S' : Int → Prop} {bits p : Nat} (hi : Inv bs.length lim p) (h : ∀ r, 0 ≤ r → r ≤ 1099511627776 → (S r ↔ S' r)) : sintO bs lim S bits p = sintO bs lim S' bits p := by
  refine numO_congr (fun ds x r h0 h1 => ?_) _ _ _ hi
  unfold mayS
  refine comes_congr (fun m r h0 h1 => ?_) _ _ _ h0 h1
  rw [h r h0 h1]
theorem has_hasR {mn mx r : Int} (hr : wide mn mx) (h0 : 0 ≤ r) (h1 : r ≤ 1099511627776) : Span.has mn mx r = true ↔ hasR mn mx r := by
  obtain ⟨a, b, c, d⟩ := hr
  unfold Span.has hasR
  simp only [Bool.and_eq_true, Bool.or_eq_true, decide_eq_true_eq]
  split <;> omega
end Go.Proofs.Cur
