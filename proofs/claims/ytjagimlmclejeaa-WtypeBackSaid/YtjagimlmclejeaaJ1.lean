/-
  Plain mathematics of spans: no program in sight.
-/

namespace Go.Proofs.Span

/-- is there a number in a range, below 2^bits, with digits that are known? -/
def fit (lo hi low shift left bits : Nat) : Prop := ∃ v, lo ≤ v ∧ v ≤ hi ∧ v < 2 ^ bits ∧ v % 2 ^ shift = low ∧ v / 2 ^ shift < 128 ^ left

/-- the same by one look -/
def look (lo hi low shift left bits : Nat) : Bool :=
  decide (lo ≤ min hi (2 ^ bits - 1)) && decide (low ≤ min hi (2 ^ bits - 1)) &&
    (decide ((if low < lo then (lo - low - 1) / 2 ^ shift + 1 else 0) < 2 ^ (7 * left)) &&
     decide (low + (if low < lo then (lo - low - 1) / 2 ^ shift + 1 else 0) * 2 ^ shift ≤ min hi (2 ^ bits - 1)))

theorem look_fit (lo hi low shift left bits : Nat) (hlow : low < 2 ^ shift) : look lo hi low shift left bits = true ↔ fit lo hi low shift left bits := by
  have hS : 0 < 2 ^ shift := Nat.pow_pos (by decide)
  have hB : 0 < 2 ^ bits := Nat.pow_pos (by decide)
  have hp : (128 : Nat) ^ left = 2 ^ (7 * left) := by rw [Nat.pow_mul]
  unfold look fit
  rw [hp]
  generalize 2 ^ shift = S at *
  generalize 2 ^ bits = B at *
  generalize 2 ^ (7 * left) = L
  simp only [Bool.and_eq_true, decide_eq_true_eq]
  constructor
  · rintro ⟨⟨h1, h2⟩, h3, h4⟩
    split at h3
    · rename_i hlt
      rw [if_pos hlt] at h4
      refine ⟨low + ((lo - low - 1) / S + 1) * S, ?_, by omega, by omega, ?_, ?_⟩
      · have := Nat.div_add_mod (lo - low - 1) S
        have hm := Nat.mod_lt (lo - low - 1) hS
        rw [Nat.add_mul, Nat.mul_comm ((lo - low - 1) / S) S]
        omega
      · rw [Nat.add_mul_mod_self_right]; exact Nat.mod_eq_of_lt hlow
      · rw [Nat.add_mul_div_right _ _ hS, Nat.div_eq_of_lt hlow]; omega
    · rename_i hlt
      rw [if_neg hlt] at h4
      refine ⟨low, by omega, by omega, by omega, Nat.mod_eq_of_lt hlow, ?_⟩
      rw [Nat.div_eq_of_lt hlow]; omega
  · rintro ⟨v, h1, h2, h3, h4, h5⟩
    have hv := Nat.div_add_mod v S
    rw [h4] at hv
    have hle : low ≤ v := by rw [← hv]; exact Nat.le_add_left _ _
    refine ⟨⟨by omega, by omega⟩, ?_⟩
    split
    · rename_i hlt
      have hq : (lo - low - 1) / S < v / S := by
        rw [Nat.div_lt_iff_lt_mul hS, Nat.mul_comm]
        omega
      have hm : ((lo - low - 1) / S + 1) * S ≤ v / S * S := Nat.mul_le_mul_right _ hq
      rw [Nat.mul_comm (v / S) S] at hm
      exact ⟨Nat.lt_of_le_of_lt hq h5, by omega⟩
    · exact ⟨Nat.lt_of_le_of_lt (Nat.zero_le _) h5, by omega⟩

/-! ### counts and sizes, over the integers; 1099511627776 stands for no bound -/
def right (mn mx : Int) : Prop := 0 ≤ mn ∧ mn ≤ mx ∧ mn ≤ 274877906944 ∧ (mx ≤ 274877906944 ∨ 1099511627776 ≤ mx)
/-- likewise, with room for what is put ahead -/
def wide (mn mx : Int) : Prop := 0 ≤ mn ∧ mn ≤ mx ∧ mn ≤ 549755813888 ∧ (mx ≤ 549755813888 ∨ 1099511627776 ≤ mx)
theorem right.wide {mn mx : Int} (h : right mn mx) : wide mn mx := by obtain ⟨a, b, c, d⟩ := h; exact ⟨a, b, by omega, by omega⟩
def item (mn mx : Int) : Prop := right mn mx ∧ 1 ≤ mn ∧ mn ≤ 31 ∧ (mx ≤ 31 ∨ 1099511627776 ≤ mx)
def has (mn mx n : Int) : Bool := decide (mn ≤ n) && (decide (1099511627776 ≤ mx) || decide (n ≤ mx))
/-- the sum of two greatest counts -/
def most (a b : Int) : Int := if 1099511627776 ≤ a ∨ 1099511627776 ≤ b ∨ 1099511627776 < a + b then 1099511627776 else a + b
/-- a product, 2^40 at most -/
def mul (n m : Int) : Int := if 1099511627776 < n * m then 1099511627776 else n * m
def between (low high : Int) : Int × Int := if min high 4294967295 < max low 0 then (1, 0) else (max low 0, min high 4294967295)
def least (iMax bMax r : Int) : Int := if bMax < 1099511627776 ∧ bMax < r then (if 1099511627776 ≤ iMax then 1 else (r - bMax - 1) / iMax + 1) else 0
def counts (iMin iMax bMin bMax r : Int) : Int × Int :=
  if r < bMin then (1, 0) else between (least iMax bMax r) ((r - bMin) / iMin)
/-- may r bytes be made of n items, and what is behind? -/
def makes (iMin iMax bMin bMax r n : Int) : Bool :=
  let mn := if n ≤ 0 then 0 else mul n iMin
  let mx := if n ≤ 0 then 0 else if 1099511627776 ≤ iMax then 1099511627776 else mul n iMax
  has (mn + bMin) (most mx bMax) r && (decide (r < 1099511627776) || decide (1099511627776 ≤ most mx bMax))
def sizes (oMin oMax bMin bMax r : Int) : Int × Int :=
  if 1099511627776 ≤ r then (if 1099511627776 ≤ bMax then between oMin oMax else (1, 0))
  else between (if 1099511627776 ≤ bMax then oMin else max oMin (r - bMax)) (min oMax (r - bMin))
def parts (oMin oMax bMin bMax r v : Int) : Bool :=
  if has oMin oMax v = false ∨ (r < 1099511627776 ∧ r < v) then false
  else if 1099511627776 ≤ r then decide (1099511627776 ≤ bMax) else has bMin bMax (r - v)

theorem between_in (low high n : Int) (h0 : 0 ≤ n) (h1 : n ≤ 4294967295) : ((between low high).1 ≤ n ∧ n ≤ (between low high).2) ↔ low ≤ n ∧ n ≤ high := by
  unfold between; split <;> simp only <;> omega
theorem between_bounds (low high : Int) (hl : low ≤ 4294967296) : 0 ≤ (between low high).1 ∧ (between low high).1 ≤ 4294967296 ∧ 0 ≤ (between low high).2 ∧ (between low high).2 ≤ 4294967295 ∧
    ((between low high).2 < (between low high).1 → (between low high) = (1, 0)) := by
  unfold between; split
  · simp
  · simp only; refine ⟨by omega, by omega, by omega, by omega, by omega⟩

theorem sizes_parts {oMin oMax bMin bMax r v : Int} (ho : wide oMin oMax) (hb : wide bMin bMax) (h0 : 0 ≤ r) (h1 : r ≤ 1099511627776) (v0 : 0 ≤ v) (v1 : v ≤ 4294967295) :
    parts oMin oMax bMin bMax r v = true ↔ (sizes oMin oMax bMin bMax r).1 ≤ v ∧ v ≤ (sizes oMin oMax bMin bMax r).2 := by
  obtain ⟨o1, o2, o3, o4⟩ := ho
  obtain ⟨b1, b2, b3, b4⟩ := hb
  have B := fun low high => between_in low high v v0 v1
  have hone : ¬ ((1 : Int) ≤ v ∧ v ≤ 0) := by omega
  have hP : parts oMin oMax bMin bMax r v = true ↔ (oMin ≤ v ∧ (1099511627776 ≤ oMax ∨ v ≤ oMax)) ∧ ¬ (r < 1099511627776 ∧ r < v) ∧
      (if 1099511627776 ≤ r then 1099511627776 ≤ bMax else bMin ≤ r - v ∧ (1099511627776 ≤ bMax ∨ r - v ≤ bMax)) := by
    unfold parts has
    by_cases hc : (decide (oMin ≤ v) && (decide (1099511627776 ≤ oMax) || decide (v ≤ oMax))) = false ∨ r < 1099511627776 ∧ r < v
    · rw [if_pos hc]
      simp only [Bool.and_eq_false_iff, decide_eq_false_iff_not, Bool.or_eq_false_iff] at hc
      constructor
      · intro h; cases h
      · rintro ⟨h1, h2, _⟩; omega
    · rw [if_neg hc]
      simp only [Bool.and_eq_false_iff, decide_eq_false_iff_not, Bool.or_eq_false_iff] at hc
      split
      · simp only [decide_eq_true_eq]; constructor
        · intro h; exact ⟨by omega, by omega, h⟩
        · intro h; exact h.2.2
      · simp only [Bool.and_eq_true, Bool.or_eq_true, decide_eq_true_eq]; constructor
        · intro h; exact ⟨by omega, by omega, h⟩
        · intro h; exact h.2.2
  rw [hP]
  unfold sizes
  by_cases hr : 1099511627776 ≤ r
  · rw [if_pos hr, if_pos hr]
    by_cases hm : 1099511627776 ≤ bMax
    · rw [if_pos hm, B]; omega
    · rw [if_neg hm]; simp only; omega
  · rw [if_neg hr, if_neg hr, B]
    by_cases hm : 1099511627776 ≤ bMax
    · rw [if_pos hm]; omega
    · rw [if_neg hm]; omega

theorem counts_makes {iMin iMax bMin bMax r n : Int} (hi : item iMin iMax) (hb : wide bMin bMax) (h0 : 0 ≤ r) (h1 : r ≤ 1099511627776) (n0 : 0 ≤ n) (n1 : n ≤ 4294967295) :
    makes iMin iMax bMin bMax r n = true ↔ (counts iMin iMax bMin bMax r).1 ≤ n ∧ n ≤ (counts iMin iMax bMin bMax r).2 := by
  obtain ⟨⟨i1, i2, i3, i4⟩, i5, i6, i7⟩ := hi
  obtain ⟨b1, b2, b3, b4⟩ := hb
  have hn : 0 ≤ n * iMin := Int.mul_nonneg n0 (by omega)
  have hn' : n * iMin ≤ n * 31 := Int.mul_le_mul_of_nonneg_left i6 n0
  have hq : ∀ d : Int, n ≤ d / iMin ↔ n * iMin ≤ d := fun d => Int.le_ediv_iff_mul_le (by omega)
  have B := fun low high => between_in low high n n0 n1
  have hone : ¬ ((1 : Int) ≤ n ∧ n ≤ 0) := by omega
  -- what is asked, in plain words
  have hM : makes iMin iMax bMin bMax r n = true ↔ n * iMin + bMin ≤ r ∧ (1099511627776 ≤ most (if n ≤ 0 then 0 else if 1099511627776 ≤ iMax then 1099511627776 else mul n iMax) bMax ∨
      (r ≤ most (if n ≤ 0 then 0 else if 1099511627776 ≤ iMax then 1099511627776 else mul n iMax) bMax ∧ r < 1099511627776)) := by
    unfold makes has
    have e : (if n ≤ 0 then 0 else mul n iMin) = n * iMin := by
      unfold mul
      split
      · have : n = 0 := by omega
        subst this; simp
      · rw [if_neg (by omega)]
    simp only [e]
    generalize most (if n ≤ 0 then 0 else if 1099511627776 ≤ iMax then 1099511627776 else mul n iMax) bMax = M
    simp only [Bool.and_eq_true, Bool.or_eq_true, decide_eq_true_eq]
    omega
  rw [hM]
  unfold counts
  by_cases hr : r < bMin
  · rw [if_pos hr]; simp only; omega
  · rw [if_neg hr, B, hq]
    unfold least most mul
    by_cases hE : 1099511627776 ≤ iMax
    · simp only [hE, if_true]
      by_cases hz : n ≤ 0
      · have hz' : n = 0 := by omega
        subst hz'
        simp only [Int.zero_mul, Int.le_refl, if_true] at *
        split <;> split <;> omega
      · simp only [hz, if_false]
        split <;> split <;> omega
    · have hle : iMax ≤ 31 := by omega
      have hm0 : 0 ≤ n * iMax := Int.mul_nonneg n0 (by omega)
      have hm1 : n * iMax ≤ n * 31 := Int.mul_le_mul_of_nonneg_left hle n0
      have hm2 : n * iMin ≤ n * iMax := Int.mul_le_mul_of_nonneg_left i2 n0
      have hu : (r - bMax - 1) / iMax + 1 ≤ n ↔ r - bMax ≤ n * iMax := by
        have := Int.ediv_lt_iff_lt_mul (a := r - bMax - 1) (b := n) (c := iMax) (by omega)
        omega
      simp only [hE, if_false]
      by_cases hz : n ≤ 0
      · have hz' : n = 0 := by omega
        subst hz'
        simp only [Int.zero_mul, Int.le_refl, if_true] at *
        split <;> split <;> omega
      · simp only [hz, if_false]
        rw [if_neg (by omega : ¬ (1099511627776 < n * iMax))]
        split <;> split <;> omega
end Go.Proofs.Span
