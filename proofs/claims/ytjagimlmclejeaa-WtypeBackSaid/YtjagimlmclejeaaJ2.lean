/-
  Plain mathematics of bytes that are read: what comes of it; a number by sevens, digit by digit. No program in sight.
-/
import Derived.Test.YtjagimlmclejeaaJ0
import Derived.Test.YtjagimlmclejeaaJ1
namespace Go.Proofs.Cur
open Go.Proofs.Leb Go.Proofs.Span

/-- what comes of reading: something, and the place behind it; or it gave up at a place, with an error -/
inductive Out (α : Type) where
  | ok (a : α) (p : Nat)
  | up (p : Nat) (e : Nat)

def Out.bind {α β : Type} (o : Out α) (f : α → Nat → Out β) : Out β := match o with
  | .ok a p => f a p
  | .up p e => .up p e

def rest (lim : Int) (p : Nat) : Int := if lim = -1 then 1099511627776 else lim - p

/-- a place and a limit, as they may be -/
structure Inv (n : Nat) (lim : Int) (p : Nat) : Prop where
  place : p ≤ n
  len : n ≤ 1000000000
  lim : lim = -1 ∨ ((p : Int) ≤ lim ∧ lim ≤ p + 1099511627776)

theorem Inv.rest {n : Nat} {lim : Int} {p : Nat} (h : Inv n lim p) : 0 ≤ rest lim p ∧ rest lim p ≤ 1099511627776 := by
  have := h.lim
  unfold Cur.rest
  split <;> omega
theorem Inv.next {n : Nat} {lim : Int} {p : Nat} (h : Inv n lim p) (hr : Cur.rest lim p ≠ 0) (hp : p < n) : Inv n lim (p + 1) := by
  have h1 := h.lim
  refine ⟨hp, h.len, ?_⟩
  unfold Cur.rest at hr
  split at hr <;> omega

open Classical in
noncomputable def byteO (bs : List UInt8) (lim : Int) (may : UInt8 → Int → Prop) (p : Nat) : Out UInt8 :=
  if rest lim p = 0 then .up p 2
  else if h : p < bs.length then (if may bs[p] (rest lim (p + 1)) then .ok bs[p] (p + 1) else .up p 2)
  else .up p 1

/-- digits from the lowest on, as many as n at most; 'may' is told those that were read -/
noncomputable def numO (bs : List UInt8) (lim : Int) (may : List UInt8 → UInt8 → Int → Prop) : Nat → List UInt8 → Nat → Out (List UInt8)
  | 0, _, p => .up p 2
  | n + 1, ds, p => (byteO bs lim (may ds) p).bind fun x q => if x.toNat < 128 then .ok (ds ++ [x]) q else numO bs lim may n (ds ++ [x]) q

/-- what is left behind some more bytes -/
def behind (r : Int) (j : Nat) : Int := if r < 1099511627776 then r - j else r

/-- may a number come out, of which x is a byte, with so many bytes more at most? -/
def comes (f : Nat → Int → Prop) (x most : Nat) (r : Int) : Prop :=
  if x < 128 then f 0 r else ∃ j, 1 ≤ j ∧ j ≤ most ∧ (j : Int) ≤ r ∧ f j (behind r j)

/-- is there a number of 32 bits that may stand, with digits that are known? -/
def fits (S : Int → Nat → Prop) (low k more : Nat) (r : Int) : Prop := ∃ n, S r n ∧ n < 4294967296 ∧ n % 128 ^ k = low ∧ n / 128 ^ k < 128 ^ more

/-- a digit of a number without a sign -/
def mayU (S : Int → Nat → Prop) (ds : List UInt8) (x : UInt8) (r : Int) : Prop :=
  comes (fun more r => fits S (val (ds ++ [x])) (ds.length + 1) more r) x.toNat (4 - ds.length) r
noncomputable def uintO (bs : List UInt8) (lim : Int) (S : Int → Nat → Prop) (p : Nat) : Out (List UInt8) := numO bs lim (mayU S) 5 [] p

/-- are all bits of a digit from the highest of so many on the same? -/
def alike (x bits : Nat) : Prop := x / 2 ^ (bits - 1) = 0 ∨ x / 2 ^ (bits - 1) = 127 / 2 ^ (bits - 1)
/-- a digit of a number with a sign -/
def mayS (B : Int → Prop) (bits : Nat) (ds : List UInt8) (x : UInt8) (r : Int) : Prop :=
  comes (fun more r => B r ∧ (0 < more ∨ ds.length < (bits - 1) / 7 ∨ alike x.toNat (bits - 7 * ds.length))) x.toNat ((bits - 1) / 7 - ds.length) r
noncomputable def sintO (bs : List UInt8) (lim : Int) (B : Int → Prop) (bits p : Nat) : Out (List UInt8) := numO bs lim (mayS B bits) ((bits - 1) / 7 + 1) [] p

theorem fits_zero {S : Int → Nat → Prop} {low k : Nat} {r : Int} (h : low < 128 ^ k) : fits S low k 0 r ↔ S r low ∧ low < 4294967296 := by
  unfold fits
  constructor
  · rintro ⟨n, h1, h2, h3, h4⟩
    rw [Nat.pow_zero] at h4
    have : n / 128 ^ k = 0 := Nat.lt_one_iff.mp h4
    have e := Nat.div_add_mod n (128 ^ k)
    rw [this, h3] at e
    have : n = low := by omega
    subst this
    exact ⟨h1, h2⟩
  · rintro ⟨h1, h2⟩
    exact ⟨low, h1, h2, Nat.mod_eq_of_lt h, by rw [Nat.div_eq_of_lt h]; exact Nat.pow_pos (by decide)⟩

/-- at last no digit may have one behind it -/
theorem mayU_last {S : Int → Nat → Prop} {ds : List UInt8} {x : UInt8} {r : Int} (h : 4 ≤ ds.length) (hm : mayU S ds x r) : x.toNat < 128 := by
  unfold mayU comes at hm
  split at hm
  · assumption
  · obtain ⟨j, h1, h2, _⟩ := hm; omega
theorem mayS_last {B : Int → Prop} {bits : Nat} {ds : List UInt8} {x : UInt8} {r : Int} (h : (bits - 1) / 7 ≤ ds.length) (hm : mayS B bits ds x r) : x.toNat < 128 := by
  unfold mayS comes at hm
  split at hm
  · assumption
  · obtain ⟨j, h1, h2, _⟩ := hm; omega

/-- the least number from v on that has these lower digits -/
def nextUp (v step low : Nat) : Nat := if v % step ≤ low then v - v % step + low else v - v % step + step + low
theorem nextUp_spec {v step low : Nat} (hs : 0 < step) (hl : low < step) : v ≤ nextUp v step low ∧ nextUp v step low % step = low ∧ ∀ n, v ≤ n → n % step = low → nextUp v step low ≤ n := by
  have e := Nat.div_add_mod v step
  have hm := Nat.mod_lt v hs
  have e2 : v - v % step = step * (v / step) := by omega
  unfold nextUp
  rw [e2]
  refine ⟨?_, ?_, ?_⟩
  · split <;> omega
  · split
    · rw [Nat.mul_add_mod]; exact Nat.mod_eq_of_lt hl
    · rw [show step * (v / step) + step + low = step * (v / step + 1) + low by rw [Nat.mul_add]; omega, Nat.mul_add_mod]; exact Nat.mod_eq_of_lt hl
  · intro n hn hlow
    have en := Nat.div_add_mod n step
    rw [hlow] at en
    split
    · rcases Nat.lt_or_ge (n / step) (v / step) with h | h
      · have := Nat.mul_le_mul_left step (show n / step + 1 ≤ v / step by omega)
        rw [Nat.mul_add] at this
        omega
      · have := Nat.mul_le_mul_left step h
        omega
    · rcases Nat.lt_or_ge (v / step) (n / step) with h | h
      · have := Nat.mul_le_mul_left step (show v / step + 1 ≤ n / step by omega)
        rw [Nat.mul_add] at this
        omega
      · have := Nat.mul_le_mul_left step h
        omega

/-- numbers that are all in a row, from v0 on: there is one with these digits just if the least of these is one -/
theorem fits_row {M : Nat → Prop} {v0 low k more : Nat} (hl : low < 128 ^ k) (h0 : ∀ n, M n → v0 ≤ n) (h1 : ∀ m n, v0 ≤ m → m ≤ n → M n → M m) :
    (∃ n, M n ∧ n % 128 ^ k = low ∧ n / 128 ^ k < 128 ^ more) ↔ nextUp v0 (128 ^ k) low / 128 ^ k < 128 ^ more ∧ M (nextUp v0 (128 ^ k) low) := by
  have hs : 0 < 128 ^ k := Nat.pow_pos (by decide)
  obtain ⟨s1, s2, s3⟩ := nextUp_spec (v := v0) hs hl
  constructor
  · rintro ⟨n, hn, h2, h3⟩
    have hle := s3 n (h0 n hn) h2
    exact ⟨Nat.lt_of_le_of_lt (Nat.div_le_div_right hle) h3, h1 _ n s1 hle hn⟩
  · rintro ⟨h2, h3⟩
    exact ⟨_, h3, s2, h2⟩

/-! ### the document's wants -/

/-- what may follow, at a rest -/
def hasR (mn mx r : Int) : Prop := if 1099511627776 ≤ r then 1099511627776 ≤ mx else 0 ≤ r ∧ mn ≤ r ∧ (1099511627776 ≤ mx ∨ r ≤ mx)

structure Wnt where
  kind : Int
  lo : Nat
  hi : Nat
  i1 : Int
  i2 : Int
  o1 : Int
  o2 : Int
  b1 : Int
  b2 : Int
  picks : List (Nat × Int × Int)

/-- may a number stand ahead of a rest? -/
def Wnt.may (w : Wnt) (r : Int) (n : Nat) : Prop :=
  0 ≤ r ∧ n < 4294967296 ∧ (if w.kind = 0 then w.lo ≤ n ∧ n ≤ w.hi ∧ hasR w.b1 w.b2 r else if w.kind = 1 then makes w.i1 w.i2 w.b1 w.b2 r n = true
    else if w.kind = 2 then parts w.o1 w.o2 w.b1 w.b2 r n = true else ∃ x ∈ w.picks, x.1 = n ∧ hasR x.2.1 x.2.2 r)

/-- is a want as it should be? -/
structure Wnt.Fine (w : Wnt) : Prop where
  lo : w.lo < 18446744073709551616
  hi : w.hi < 18446744073709551616
  item : w.kind = 1 → Span.item w.i1 w.i2
  own : w.kind = 2 → Span.wide w.o1 w.o2
  beh : w.kind = 0 ∨ w.kind = 1 ∨ w.kind = 2 → Span.wide w.b1 w.b2
  i64 : w.i2 ≤ 9223372036854775807 ∧ w.o2 ≤ 9223372036854775807 ∧ w.b2 ≤ 9223372036854775807

/-- can so many items fill what behind can't? -/
def fills (i2 b2 r : Int) (n : Nat) : Prop :=
  1099511627776 ≤ Span.most (if (n : Int) ≤ 0 then 0 else if 1099511627776 ≤ i2 then 1099511627776 else mul n i2) b2 ∨
    (r < 1099511627776 ∧ r ≤ Span.most (if (n : Int) ≤ 0 then 0 else if 1099511627776 ≤ i2 then 1099511627776 else mul n i2) b2)

theorem fills_mono {i1 i2 b2 r : Int} (hi : item i1 i2) (hb : 0 ≤ b2) {m n : Nat} (h : m ≤ n) (hf : fills i2 b2 r m) : fills i2 b2 r n := by
  obtain ⟨⟨a1, a2, a3, a4⟩, a5, a6, a7⟩ := hi
  have h1 : (m : Int) * i2 ≤ n * i2 := Int.mul_le_mul_of_nonneg_right (by omega) (by omega)
  have h2 : 0 ≤ (m : Int) * i2 := Int.mul_nonneg (by omega) (by omega)
  unfold fills Span.most mul at *
  generalize (m : Int) * i2 = x at *
  generalize (n : Int) * i2 = y at *
  by_cases e : 1099511627776 ≤ i2
  · simp only [e, if_true] at *
    split at hf <;> split <;> (repeat' split at hf) <;> (repeat' split) <;> omega
  · simp only [e, if_false] at *
    split at hf <;> split <;> (repeat' split at hf) <;> (repeat' split) <;> omega

theorem makes_fills {i1 i2 b1 b2 r : Int} {n : Nat} (hi : item i1 i2) (hb : wide b1 b2) (h0 : 0 ≤ r) (h1 : r ≤ 1099511627776) (hn : n < 4294967296) :
    makes i1 i2 b1 b2 r n = true ↔ n * i1 + b1 ≤ r ∧ fills i2 b2 r n := by
  obtain ⟨⟨a1, a2, a3, a4⟩, a5, a6, a7⟩ := hi
  obtain ⟨c1, c2, c3, c4⟩ := hb
  have hn0 : 0 ≤ (n : Int) * i1 := Int.mul_nonneg (by omega) (by omega)
  have hn1 : (n : Int) * i1 ≤ n * 31 := Int.mul_le_mul_of_nonneg_left a6 (by omega)
  unfold makes has fills
  have e : (if (n : Int) ≤ 0 then 0 else mul n i1) = n * i1 := by
    unfold mul
    split
    · have : (n : Int) = 0 := by omega
      rw [this]; simp
    · rw [if_neg (by omega)]
  simp only [e]
  generalize Span.most (if (n : Int) ≤ 0 then 0 else if 1099511627776 ≤ i2 then 1099511627776 else mul n i2) b2 = M
  simp only [Bool.and_eq_true, Bool.or_eq_true, decide_eq_true_eq]
  omega

/-- what is found by halves: from v0 on they can, or none can -/
def Half (p : Nat → Prop) (v0 : Nat) : Prop := v0 < 4294967296 ∧ (∀ n, n < v0 → ¬ p n) ∧ (v0 = 4294967295 ∨ p v0)

theorem makes_row {i1 i2 b1 b2 r : Int} {v0 : Nat} (hi : item i1 i2) (hb : wide b1 b2) (h0 : 0 ≤ r) (h1 : r ≤ 1099511627776) (h : Half (fills i2 b2 r) v0) :
    (∀ n : Nat, (n < 4294967296 ∧ makes i1 i2 b1 b2 r n = true) → v0 ≤ n) ∧
    (∀ m n : Nat, v0 ≤ m → m ≤ n → (n < 4294967296 ∧ makes i1 i2 b1 b2 r n = true) → (m < 4294967296 ∧ makes i1 i2 b1 b2 r m = true)) := by
  obtain ⟨hv, h2, h3⟩ := h
  have hb2 : 0 ≤ b2 := by obtain ⟨c1, c2, c3, c4⟩ := hb; omega
  have hi1 : 0 ≤ i1 := by obtain ⟨⟨c1, _⟩, _⟩ := hi; exact c1
  constructor
  · rintro n ⟨hn, hm⟩
    rw [makes_fills hi hb h0 h1 hn] at hm
    exact Nat.not_lt.mp fun hlt => h2 n hlt hm.2
  · rintro m n hm hmn ⟨hn, hk⟩
    rw [makes_fills hi hb h0 h1 hn] at hk
    refine ⟨by omega, ?_⟩
    rw [makes_fills hi hb h0 h1 (by omega)]
    have : (m : Int) * i1 ≤ n * i1 := Int.mul_le_mul_of_nonneg_right (by omega) hi1
    refine ⟨by omega, ?_⟩
    rcases h3 with h3 | h3
    · have : m = n := by omega
      subst this
      exact hk.2
    · exact fills_mono hi hb2 hm h3

/-- the least number of a want of the kinds 0 to 2 -/
def Wnt.Least (w : Wnt) (r : Int) (v0 : Nat) : Prop := v0 < 18446744073709551616 ∧ (∀ n, w.may r n → v0 ≤ n) ∧ (∀ m n, v0 ≤ m → m ≤ n → w.may r n → w.may r m)

theorem least0 {w : Wnt} (hf : w.Fine) (hk : w.kind = 0) (r : Int) : w.Least r w.lo := by
  unfold Wnt.Least Wnt.may
  simp only [hk, if_true]
  exact ⟨hf.lo, fun n h => h.2.2.1, fun m n h1 h2 h => ⟨h.1, by omega, h1, by omega, h.2.2.2.2⟩⟩
theorem least1 {w : Wnt} (hf : w.Fine) (hk : w.kind = 1) {r : Int} (h0 : 0 ≤ r) (h1 : r ≤ 1099511627776) {v0 : Nat} (h : Half (fills w.i2 w.b2 r) v0) : w.Least r v0 := by
  obtain ⟨a, b⟩ := makes_row (hf.item hk) (hf.beh (.inr (.inl hk))) h0 h1 h
  unfold Wnt.Least Wnt.may
  have e : ¬ w.kind = 0 := by omega
  simp only [hk, if_true, show ¬ (1 : Int) = 0 by decide, if_false]
  refine ⟨by have := h.1; omega, fun n h => a n ⟨h.2.1, h.2.2⟩, fun m n h1 h2 h => ?_⟩
  have := b m n h1 h2 ⟨h.2.1, h.2.2⟩
  exact ⟨h.1, this.1, this.2⟩
def least2 (w : Wnt) (r : Int) : Nat := (if 1099511627776 ≤ w.b2 ∨ 1099511627776 ≤ r ∨ r - w.b2 < w.o1 then w.o1 else r - w.b2).toNat
theorem least2_ok {w : Wnt} (hf : w.Fine) (hk : w.kind = 2) {r : Int} (h0 : 0 ≤ r) (h1 : r ≤ 1099511627776) : w.Least r (least2 w r) := by
  have ho := hf.own hk
  have hb := hf.beh (.inr (.inr hk))
  have H := fun v : Nat => fun hv : v < 4294967296 => sizes_parts (v := v) ho hb h0 h1 (by omega) (by omega)
  obtain ⟨o1, o2, o3, o4⟩ := ho
  obtain ⟨b1, b2, b3, b4⟩ := hb
  unfold Wnt.Least Wnt.may least2
  simp only [hk, show ¬ (2 : Int) = 0 by decide, show ¬ (2 : Int) = 1 by decide, if_false, if_true]
  have hS : ∀ v : Nat, v < 4294967296 → (parts w.o1 w.o2 w.b1 w.b2 r v = true ↔ (if 1099511627776 ≤ r then 1099511627776 ≤ w.b2 ∧ w.o1 ≤ v ∧ (v : Int) ≤ w.o2 else
      (if 1099511627776 ≤ w.b2 then w.o1 else max w.o1 (r - w.b2)) ≤ v ∧ (v : Int) ≤ min w.o2 (r - w.b1))) := by
    intro v hv
    rw [H v hv]
    have B := fun low high => between_in low high (v : Int) (by omega) (by omega)
    unfold sizes
    split
    · split
      · rw [B]; omega
      · simp only; omega
    · rw [B]
  refine ⟨by split <;> omega, ?_, ?_⟩
  · rintro n ⟨-, hn, hp⟩
    rw [hS n hn] at hp
    split at hp
    · split <;> omega
    · split at hp <;> split <;> omega
  · rintro m n h2 h3 ⟨-, hn, hp⟩
    rw [hS n hn] at hp
    refine ⟨h0, by omega, ?_⟩
    rw [hS m (by omega)]
    split at hp
    · rename_i hr
      rw [if_pos hr]
      split at h2 <;> omega
    · rename_i hr
      rw [if_neg hr]
      split at hp <;> rename_i hc
      · rw [if_pos hc]; split at h2 <;> omega
      · rw [if_neg hc]; split at h2 <;> omega

/-- a want of the kinds 0 to 2: what comes, by the least one -/
theorem fits_least {w : Wnt} {r : Int} {v0 low k more : Nat} (hl : low < 128 ^ k) (h : w.Least r v0) :
    fits w.may low k more r ↔ nextUp v0 (128 ^ k) low / 128 ^ k < 128 ^ more ∧ w.may r (nextUp v0 (128 ^ k) low) := by
  rw [← fits_row hl h.2.1 h.2.2]
  unfold fits
  constructor
  · rintro ⟨n, h1, h2, h3, h4⟩; exact ⟨n, h1, h3, h4⟩
  · rintro ⟨n, h1, h3, h4⟩; exact ⟨n, h1, h1.2.1, h3, h4⟩
end Go.Proofs.Cur

namespace Go.Proofs.Cur
open Go.Proofs.Leb Go.Proofs.Span

theorem byteO_congr {bs : List UInt8} {lim : Int} {may may' : UInt8 → Int → Prop} {p : Nat} (hi : Inv bs.length lim p) (h : ∀ x r, 0 ≤ r → r ≤ 1099511627776 → (may x r ↔ may' x r)) : byteO bs lim may p = byteO bs lim may' p := by
  unfold byteO
  by_cases h0 : rest lim p = 0
  · rw [if_pos h0, if_pos h0]
  · rw [if_neg h0, if_neg h0]
    by_cases hp : p < bs.length
    · rw [dif_pos hp, dif_pos hp]
      have hr := (hi.next h0 hp).rest
      have hc := h bs[p] _ hr.1 hr.2
      by_cases hm : may bs[p] (rest lim (p + 1))
      · rw [if_pos hm, if_pos (hc.1 hm)]
      · rw [if_neg hm, if_neg (fun g => hm (hc.2 g))]
    · rw [dif_neg hp, dif_neg hp]
theorem byteO_inv' {bs : List UInt8} {lim : Int} {may : UInt8 → Int → Prop} {p q : Nat} {x : UInt8} (hi : Inv bs.length lim p) (h : byteO bs lim may p = .ok x q) : Inv bs.length lim q := by
  unfold byteO at h
  split at h
  · cases h
  · split at h
    · split at h
      · cases h; exact hi.next (by assumption) (by assumption)
      · cases h
    · cases h
theorem numO_congr {bs : List UInt8} {lim : Int} {may may' : List UInt8 → UInt8 → Int → Prop} (h : ∀ ds x r, 0 ≤ r → r ≤ 1099511627776 → (may ds x r ↔ may' ds x r)) : ∀ (n : Nat) (ds : List UInt8) (p : Nat), Inv bs.length lim p → numO bs lim may n ds p = numO bs lim may' n ds p
  | 0, _, _, _ => rfl
  | n + 1, ds, p, hi => by
    unfold numO
    rw [byteO_congr hi (h ds)]
    cases hb : byteO bs lim (may' ds) p with
    | up q er => rfl
    | ok x q =>
      simp only [Out.bind]
      split
      · rfl
      · exact numO_congr h n _ q (byteO_inv' hi hb)
theorem comes_congr {f g : Nat → Int → Prop} (h : ∀ m r, 0 ≤ r → r ≤ 1099511627776 → (f m r ↔ g m r)) (x most : Nat) (r : Int) (h0 : 0 ≤ r) (h1 : r ≤ 1099511627776) : comes f x most r ↔ comes g x most r := by
  unfold comes
  split
  · exact h 0 r h0 h1
  · constructor
    · rintro ⟨j, a, b, c, d⟩
      exact ⟨j, a, b, c, (h j _ (by unfold behind; split <;> omega) (by unfold behind; split <;> omega)).1 d⟩
    · rintro ⟨j, a, b, c, d⟩
      exact ⟨j, a, b, c, (h j _ (by unfold behind; split <;> omega) (by unfold behind; split <;> omega)).2 d⟩
theorem uintO_congr {bs : List UInt8} {lim : Int} {S S' : Int → Nat → Prop} {p : Nat} (hi : Inv bs.length lim p) (h : ∀ r n, 0 ≤ r → r ≤ 1099511627776 → n < 4294967296 → (S r n ↔ S' r n)) : uintO bs lim S p = uintO bs lim S' p := by
  refine numO_congr (fun ds x r h0 h1 => ?_) _ _ _ hi
  unfold mayU
  refine comes_congr (fun m r h0 h1 => ?_) _ _ _ h0 h1
  unfold fits
  constructor
  · rintro ⟨n, a, b, c⟩; exact ⟨n, (h r n h0 h1 b).1 a, b, c⟩
  · rintro ⟨n, a, b, c⟩; exact ⟨n, (h r n h0 h1 b).2 a, b, c⟩
theorem sintO_congr {bs : List UInt8} {lim : Int} {S S' : Int → Prop} {bits p : Nat} (hi : Inv bs.length lim p) (h : ∀ r, 0 ≤ r → r ≤ 1099511627776 → (S r ↔ S' r)) : sintO bs lim S bits p = sintO bs lim S' bits p := by
  refine numO_congr (fun ds x r h0 h1 => ?_) _ _ _ hi
  unfold mayS
  refine comes_congr (fun m r h0 h1 => ?_) _ _ _ h0 h1
  rw [h r h0 h1]
theorem has_hasR {mn mx r : Int} (hr : wide mn mx) (h0 : 0 ≤ r) (h1 : r ≤ 1099511627776) : Span.has mn mx r = true ↔ hasR mn mx r := by
  obtain ⟨a, b, c, d⟩ := hr
  unfold Span.has hasR
  simp only [Bool.and_eq_true, Bool.or_eq_true, decide_eq_true_eq]
  split <;> omega
end Go.Proofs.Cur
