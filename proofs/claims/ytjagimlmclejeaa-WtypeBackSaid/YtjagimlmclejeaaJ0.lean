/-
  Plain mathematics of numbers by sevens: no program in sight.
-/

namespace Go.Proofs.Leb

/-- the value of digits to the base 128, the lowest first -/
def val : List UInt8 → Nat
  | [] => 0
  | x :: t => x.toNat % 128 + 128 * val t

/-- how many bytes there are ahead of the first below 128 -/
def stop : List UInt8 → Nat
  | [] => 0
  | x :: t => if x.toNat < 128 then 0 else stop t + 1

theorem u8_lt (x : UInt8) : x.toNat < 256 := x.toNat_lt

theorem val_nil : val [] = 0 := rfl
theorem val_append (a b : List UInt8) : val (a ++ b) = val a + 128 ^ a.length * val b := by
  induction a with
  | nil => simp [val]
  | cons x t ih => simp only [List.cons_append, val, ih, List.length_cons, Nat.pow_succ, Nat.mul_add]; rw [Nat.mul_comm (128 ^ t.length) 128, Nat.mul_assoc]; omega
theorem val_lt (a : List UInt8) : val a < 128 ^ a.length := by
  induction a with
  | nil => simp [val]
  | cons x t ih =>
    simp only [val, List.length_cons, Nat.pow_succ]
    have := Nat.mod_lt x.toNat (show 0 < 128 by decide)
    omega
theorem take_snoc (l : List UInt8) (k : Nat) (h : k < l.length) : l.take (k + 1) = l.take k ++ [l[k]] := by
  rw [List.take_succ_eq_append_getElem h]
theorem val_take_succ (l : List UInt8) (k : Nat) (h : k < l.length) : val (l.take (k + 1)) = val (l.take k) + 128 ^ k * (l[k].toNat % 128) := by
  rw [take_snoc l k h, val_append]
  have : (l.take k).length = k := by simp; omega
  rw [this]
  simp [val]
theorem val_take_lt (l : List UInt8) (k : Nat) : val (l.take k) < 128 ^ k := by
  have h := val_lt (l.take k)
  have h2 : (l.take k).length ≤ k := by simp; omega
  exact Nat.lt_of_lt_of_le h (Nat.pow_le_pow_right (by decide) h2)

theorem stop_le (l : List UInt8) : stop l ≤ l.length := by
  induction l with
  | nil => simp [stop]
  | cons x t ih => simp only [stop, List.length_cons]; split <;> omega
theorem stop_before (l : List UInt8) (i : Nat) (h : i < stop l) (hl : i < l.length) : 128 ≤ l[i].toNat := by
  induction l generalizing i with
  | nil => simp at hl
  | cons x t ih =>
    simp only [stop] at h
    split at h
    · omega
    · cases i with
      | zero => simpa using by omega
      | succ i => simpa using ih i (by omega) (by simpa using hl)
theorem stop_at (l : List UInt8) (h : stop l < l.length) : l[stop l].toNat < 128 := by
  induction l with
  | nil => simp at h
  | cons x t ih =>
    simp only [stop] at h ⊢
    split
    · simpa
    · rename_i hx
      rw [if_neg hx] at h
      simpa using ih (by simpa using h)
/-- what stands at a place tells where the end is -/
theorem stop_step (l : List UInt8) (i : Nat) (h : i ≤ stop l) (hl : i < l.length) : (l[i].toNat < 128 → stop l = i) ∧ (128 ≤ l[i].toNat → i + 1 ≤ stop l) := by
  constructor
  · intro hx
    rcases Nat.lt_or_ge i (stop l) with h1 | h1
    · have := stop_before l i h1 hl; omega
    · omega
  · intro hx
    rcases Nat.lt_or_ge i (stop l) with h1 | h1
    · omega
    · have e : stop l = i := by omega
      have := stop_at l (by omega)
      simp only [e] at this
      omega

/-- a number without a sign, in so many bytes more than it needs -/
def encU (v more : Nat) : List UInt8 :=
  if v ≤ 127 ∧ more = 0 then [UInt8.ofNat v] else UInt8.ofNat (v % 128 + 128) :: encU (v / 128) (if v ≤ 127 then more - 1 else more)
termination_by v + more
decreasing_by
  split
  · omega
  · omega

theorem encU_last (v : Nat) (h : v ≤ 127) : encU v 0 = [UInt8.ofNat v] := by rw [encU]; simp [h]
theorem encU_more (v more : Nat) (h : 127 < v ∨ 0 < more) : encU v more = UInt8.ofNat (v % 128 + 128) :: encU (v / 128) (if v ≤ 127 then more - 1 else more) := by
  rw [encU, if_neg (by omega)]

theorem u8_of (n : Nat) (h : n < 256) : (UInt8.ofNat n).toNat = n := by
  simp only [UInt8.toNat_ofNat']; omega

theorem encU_ne (v more : Nat) : 0 < (encU v more).length := by
  rw [encU]; split <;> simp

theorem encU_val : ∀ (v more : Nat), val (encU v more) = v := by
  intro v more
  induction v, more using encU.induct with
  | case1 v more h =>
    obtain ⟨h1, rfl⟩ := h
    rw [encU_last v h1]; simp only [val, u8_of v (by omega)]; omega
  | case2 v more h ih =>
    simp only [dite_eq_ite] at ih
    rw [encU_more v more (by omega)]
    simp only [val, ih, u8_of (v % 128 + 128) (by omega)]
    omega

theorem encU_stop (r : List UInt8) : ∀ (v more : Nat), stop (encU v more ++ r) + 1 = (encU v more).length := by
  intro v more
  induction v, more using encU.induct with
  | case1 v more h =>
    obtain ⟨h1, rfl⟩ := h
    rw [encU_last v h1]
    simp [stop, u8_of v (by omega)]; omega
  | case2 v more h ih =>
    simp only [dite_eq_ite] at ih
    rw [encU_more v more (by omega)]
    simp only [List.cons_append, stop, u8_of (v % 128 + 128) (by omega), List.length_cons]
    rw [if_neg (by omega)]
    omega

theorem encU_zero (more : Nat) : (encU 0 more).length = more + 1 := by
  induction more with
  | zero => rw [encU_last 0 (by decide)]; rfl
  | succ n ih => rw [encU_more 0 (n + 1) (by omega)]; simp [ih]

theorem encU_len : ∀ (v more : Nat), (encU v more).length = (encU v 0).length + more := by
  intro v
  induction v using Nat.strongRecOn with
  | _ v ih =>
    intro more
    by_cases h : v ≤ 127
    · rw [encU_last v h]
      by_cases hm : more = 0
      · subst hm; rw [encU_last v h]; rfl
      · rw [encU_more v more (by omega), if_pos h]
        have : v / 128 = 0 := by omega
        rw [this]
        simp only [List.length_cons, encU_zero, List.length_nil]
        omega
    · rw [encU_more v more (by omega), encU_more v 0 (by omega), if_neg h, if_neg h]
      simp only [List.length_cons, ih (v / 128) (by omega) more]
      omega

theorem encU_len_le : ∀ (k v : Nat), 0 < k → v < 128 ^ k → (encU v 0).length ≤ k := by
  intro k
  induction k with
  | zero => intro v h; omega
  | succ k ih =>
    intro v _ hv
    by_cases h : v ≤ 127
    · rw [encU_last v h]; simp
    · rw [encU_more v 0 (by omega), if_neg h]
      simp only [List.length_cons]
      have hk : 0 < k := by
        rcases Nat.eq_zero_or_pos k with rfl | hk
        · simp at hv; omega
        · exact hk
      have := ih (v / 128) hk (by rw [Nat.pow_succ] at hv; omega)
      omega

/-- a number that needs more bytes is great -/
theorem encU_len_ge : ∀ (k v : Nat), 128 ^ k ≤ v → k < (encU v 0).length := by
  intro k
  induction k with
  | zero => intro v _; exact encU_ne v 0
  | succ k ih =>
    intro v hv
    have h1 : 128 * 128 ^ k ≤ v := by rw [Nat.pow_succ] at hv; omega
    have h2 : 0 < 128 ^ k := Nat.pow_pos (by decide)
    by_cases h : v ≤ 127
    · omega
    · rw [encU_more v 0 (by omega), if_neg h]
      simp only [List.length_cons]
      have := ih (v / 128) (by omega)
      omega

/-! ### numbers with a sign -/

/-- the value of digits with a sign -/
def sval : List UInt8 → Int
  | [] => 0
  | [x] => if x.toNat % 128 < 64 then (x.toNat % 128 : Nat) else (x.toNat % 128 : Nat) - 128
  | x :: y :: t => (x.toNat % 128 : Nat) + 128 * sval (y :: t)

/-- a number with a sign, in so many bytes more than it needs -/
def encS (v : Int) (more : Nat) : List UInt8 :=
  if -64 ≤ v ∧ v ≤ 63 ∧ more = 0 then [UInt8.ofNat (v % 128).toNat]
  else UInt8.ofNat ((v % 128).toNat + 128) :: encS (v / 128) (if -64 ≤ v ∧ v ≤ 63 then more - 1 else more)
termination_by v.natAbs + more
decreasing_by
  split <;> omega

theorem encS_last (v : Int) (h1 : -64 ≤ v) (h2 : v ≤ 63) : encS v 0 = [UInt8.ofNat (v % 128).toNat] := by rw [encS]; simp [h1, h2]
theorem encS_more (v : Int) (more : Nat) (h : v < -64 ∨ 63 < v ∨ 0 < more) :
    encS v more = UInt8.ofNat ((v % 128).toNat + 128) :: encS (v / 128) (if -64 ≤ v ∧ v ≤ 63 then more - 1 else more) := by
  rw [encS, if_neg (by omega)]
theorem encS_ne (v : Int) (more : Nat) : 0 < (encS v more).length := by
  rw [encS]; split <;> simp

theorem sval_cons (x : UInt8) (t : List UInt8) (h : 0 < t.length) : sval (x :: t) = (x.toNat % 128 : Nat) + 128 * sval t := by
  cases t with
  | nil => simp at h
  | cons y t => rfl

theorem encS_val : ∀ (v : Int) (more : Nat), sval (encS v more) = v := by
  intro v more
  induction v, more using encS.induct with
  | case1 v more h =>
    obtain ⟨h1, h2, rfl⟩ := h
    rw [encS_last v h1 h2]; simp only [sval, u8_of (v % 128).toNat (by omega)]; split <;> omega
  | case2 v more h ih =>
    simp only [dite_eq_ite] at ih
    rw [encS_more v more (by omega), sval_cons _ _ (encS_ne _ _), ih, u8_of _ (by omega)]
    omega

theorem encS_stop (r : List UInt8) : ∀ (v : Int) (more : Nat), stop (encS v more ++ r) + 1 = (encS v more).length := by
  intro v more
  induction v, more using encS.induct with
  | case1 v more h =>
    obtain ⟨h1, h2, rfl⟩ := h
    rw [encS_last v h1 h2]
    simp [stop, u8_of (v % 128).toNat (by omega)]; omega
  | case2 v more h ih =>
    simp only [dite_eq_ite] at ih
    rw [encS_more v more (by omega)]
    simp only [List.cons_append, stop, u8_of ((v % 128).toNat + 128) (by omega), List.length_cons]
    rw [if_neg (by omega)]
    omega

theorem encS_small (v : Int) (h : v = 0 ∨ v = -1) (more : Nat) : (encS v more).length = more + 1 := by
  induction more with
  | zero => rw [encS_last v (by omega) (by omega)]; rfl
  | succ n ih =>
    rw [encS_more v (n + 1) (by omega), if_pos (by omega)]
    have e : v / 128 = v := by omega
    rw [e]
    simp [ih]

theorem encS_len : ∀ (n : Nat) (v : Int) (more : Nat), v.natAbs ≤ n → (encS v more).length = (encS v 0).length + more := by
  intro n
  induction n with
  | zero =>
    intro v more hv
    rw [encS_small v (by omega), encS_small v (by omega)]; omega
  | succ n ih =>
    intro v more hv
    by_cases h : -64 ≤ v ∧ v ≤ 63
    · rw [encS_last v h.1 h.2]
      by_cases hm : more = 0
      · subst hm; rw [encS_last v h.1 h.2]; rfl
      · rw [encS_more v more (by omega), if_pos h]
        simp only [List.length_cons, encS_small (v / 128) (by omega), List.length_nil]
        omega
    · rw [encS_more v more (by omega), encS_more v 0 (by omega), if_neg h, if_neg h]
      simp only [List.length_cons, ih (v / 128) more (by omega)]
      omega

theorem encS_len_le : ∀ (k : Nat) (v : Int), 0 < k → -(64 * 128 ^ (k - 1) : Nat) ≤ v → v < (64 * 128 ^ (k - 1) : Nat) → (encS v 0).length ≤ k := by
  intro k
  induction k with
  | zero => intro v h; omega
  | succ k ih =>
    intro v _ h1 h2
    by_cases h : -64 ≤ v ∧ v ≤ 63
    · rw [encS_last v h.1 h.2]; simp
    · rw [encS_more v 0 (by omega), if_neg h]
      simp only [List.length_cons]
      rcases Nat.eq_zero_or_pos k with rfl | hk
      · simp at h1 h2; omega
      · have e : k + 1 - 1 = (k - 1) + 1 := by omega
        rw [e, Nat.pow_succ] at h1 h2
        have := ih (v / 128) hk (by omega) (by omega)
        omega

/-- the value with a sign, by the one without -/
theorem sval_val : ∀ (l : List UInt8) (h : 0 < l.length), sval l = (val l : Int) - if (l[l.length - 1]'(by omega)).toNat % 128 < 64 then 0 else ((128 ^ l.length : Nat) : Int) := by
  intro l
  induction l with
  | nil => intro h; simp at h
  | cons x t ih =>
    intro _
    cases t with
    | nil => simp only [sval, val, List.length_cons, List.length_nil]; simp; split <;> omega
    | cons y t =>
      have hp : 0 < (y :: t).length := by simp
      rw [sval_cons x _ hp, ih hp]
      have e : ((x :: y :: t)[(x :: y :: t).length - 1]'(by simp)) = ((y :: t)[(y :: t).length - 1]'(by simp)) := by simp
      rw [e]
      simp only [val, List.length_cons, Nat.pow_succ]
      split <;> push_cast <;> omega
/-! ### taking numbers -/

/-- how many bytes a number of so many bits may have -/
def most (bits : Nat) : Nat := (bits + 6) / 7

/-- where the number ends; or where it goes wrong, and how -/
def scan (ok : Nat → Nat → Bool) (b : List UInt8) (bits : Nat) : Nat × Nat :=
  if stop b < most bits then
    if h : stop b < b.length then
      if stop b + 1 = most bits ∧ ok b[stop b].toNat (bits - 7 * stop b) = false then (stop b, 2) else (stop b + 1, 0)
    else (b.length, 1)
  else (most bits - 1, 2)

def okU (x left : Nat) : Bool := decide (x / 2 ^ left = 0)
def okS (x left : Nat) : Bool := decide (x / 2 ^ (left - 1) = 0 ∨ x / 2 ^ (left - 1) = 127 / 2 ^ (left - 1))

def decU (b : List UInt8) (bits : Nat) : Nat × Nat × Nat :=
  (if (scan okU b bits).2 = 0 then val (b.take (scan okU b bits).1) else 0, (scan okU b bits).1, (scan okU b bits).2)
def decS (b : List UInt8) (bits : Nat) : Int × Nat × Nat :=
  (if (scan okS b bits).2 = 0 then sval (b.take (scan okS b bits).1) else 0, (scan okS b bits).1, (scan okS b bits).2)

theorem scan_ok {ok : Nat → Nat → Bool} {b : List UInt8} {bits : Nat} (h : (scan ok b bits).2 = 0) :
    ∃ hl : stop b < b.length, stop b < most bits ∧ (scan ok b bits).1 = stop b + 1 ∧ (stop b + 1 = most bits → ok b[stop b].toNat (bits - 7 * stop b) = true) := by
  unfold scan at h ⊢
  split at h
  · rename_i hs
    split at h
    · rename_i hl
      split at h
      · simp at h
      · rename_i hn
        refine ⟨hl, hs, ?_, ?_⟩
        · rw [if_pos hs, dif_pos hl, if_neg hn]
        · intro he
          cases hk : ok b[stop b].toNat (bits - 7 * stop b)
          · exact absurd ⟨he, hk⟩ hn
          · rfl
    · simp at h
  · simp at h

theorem scan_mk {ok : Nat → Nat → Bool} {b : List UInt8} {bits : Nat} (hl : stop b < b.length) (hs : stop b < most bits)
    (hk : stop b + 1 = most bits → ok b[stop b].toNat (bits - 7 * stop b) = true) : scan ok b bits = (stop b + 1, 0) := by
  unfold scan
  rw [if_pos hs, dif_pos hl, if_neg]
  rintro ⟨h1, h2⟩
  rw [hk h1] at h2
  cases h2

theorem stop_take (b : List UInt8) (k : Nat) (h : k ≤ stop b) : stop (b.take k) = k := by
  have hl := stop_le b
  induction b generalizing k with
  | nil => simp [stop] at h ⊢; omega
  | cons x t ih =>
    cases k with
    | zero => rfl
    | succ k =>
      simp only [stop] at h
      split at h
      · omega
      · rename_i hx
        simp only [List.take_succ_cons, stop, if_neg hx]
        rw [ih k (by omega) (stop_le t)]

/-- cut ahead of its end, bytes lack -/
theorem scan_cut {ok : Nat → Nat → Bool} {b : List UInt8} {bits : Nat} (k : Nat) (h : k ≤ stop b) (hk : k < most bits) : scan ok (b.take k) bits = (k, 1) := by
  have h1 := stop_take b k h
  have h2 := stop_le b
  have h3 : (b.take k).length = k := by rw [List.length_take]; omega
  unfold scan
  rw [h1, if_pos hk, dif_neg (by omega), h3]

theorem most_bits (bits : Nat) (h : 1 ≤ bits) : 1 ≤ most bits ∧ 7 * (most bits - 1) < bits ∧ bits ≤ 7 * most bits := by
  unfold most; omega

/-! ### what is put is taken -/
theorem pow128 (k : Nat) : (128 : Nat) ^ k = 2 ^ (7 * k) := by rw [Nat.pow_mul]

theorem val_take_stop (l : List UInt8) (h : 0 < l.length) : val l = val (l.take (l.length - 1)) + 128 ^ (l.length - 1) * ((l[l.length - 1]'(by omega)).toNat % 128) := by
  have h1 := val_take_succ l (l.length - 1) (by omega)
  rw [show l.length - 1 + 1 = l.length by omega, List.take_length] at h1
  exact h1

theorem back_scanU (v more : Nat) (r : List UInt8) (hv : v < 2 ^ 64) (hm : (encU v more).length ≤ 10) : scan okU (encU v more ++ r) 64 = ((encU v more).length, 0) := by
  have hs := encU_stop r v more
  have hn := encU_ne v more
  have hl : stop (encU v more ++ r) < (encU v more ++ r).length := by rw [List.length_append]; omega
  have hm10 : most 64 = 10 := rfl
  rw [scan_mk hl (by omega), hs]
  intro he
  have e9 : (encU v more).length = 10 := by omega
  have e9' : stop (encU v more ++ r) = 9 := by omega
  have h10 := val_take_stop (encU v more) hn
  rw [encU_val] at h10
  have hx : (encU v more ++ r)[stop (encU v more ++ r)] = (encU v more)[(encU v more).length - 1]'(by omega) := by
    simp only [e9', e9]; rw [List.getElem_append_left]
  have hlt := stop_at _ hl
  rw [hx] at hlt ⊢
  simp only [okU, e9', e9] at hlt h10 ⊢
  simp only [decide_eq_true_eq]
  generalize ((encU v more)[10 - 1]'(by omega)).toNat = x at hlt h10 ⊢
  have : x < 2 := by
    rcases Nat.lt_or_ge x 2 with h | h
    · exact h
    · have h2 : 128 ^ (10 - 1) * 2 ≤ 128 ^ (10 - 1) * (x % 128) := Nat.mul_le_mul_left _ (by omega)
      have h3 : (128 : Nat) ^ (10 - 1) * 2 = 2 ^ 64 := by decide
      omega
  show x / 2 ^ (64 - 7 * 9) = 0
  simp; omega

theorem back_decU (v more : Nat) (r : List UInt8) (hv : v < 2 ^ 64) (hm : (encU v more).length ≤ 10) : decU (encU v more ++ r) 64 = (v, (encU v more).length, 0) := by
  unfold decU
  rw [back_scanU v more r hv hm, if_pos rfl, List.take_left, encU_val]

theorem back_scanS (v : Int) (more : Nat) (r : List UInt8) (h1 : -9223372036854775808 ≤ v) (h2 : v < 9223372036854775808) (hm : (encS v more).length ≤ 10) :
    scan okS (encS v more ++ r) 64 = ((encS v more).length, 0) := by
  have hs := encS_stop r v more
  have hn := encS_ne v more
  have hl : stop (encS v more ++ r) < (encS v more ++ r).length := by rw [List.length_append]; omega
  have hm10 : most 64 = 10 := rfl
  rw [scan_mk hl (by omega), hs]
  intro he
  have e9 : (encS v more).length = 10 := by omega
  have e9' : stop (encS v more ++ r) = 9 := by omega
  have h10 := val_take_stop (encS v more) hn
  have h11 := sval_val (encS v more) hn
  have hb := val_take_lt (encS v more) 9
  rw [encS_val] at h11
  have hx : (encS v more ++ r)[stop (encS v more ++ r)] = (encS v more)[(encS v more).length - 1]'(by omega) := by
    simp only [e9', e9]; rw [List.getElem_append_left]
  have hlt := stop_at _ hl
  rw [hx] at hlt ⊢
  simp only [okS, e9', e9] at hlt h10 h11 ⊢
  simp only [decide_eq_true_eq]
  generalize ((encS v more)[10 - 1]'(by omega)).toNat = x at hlt h10 h11 ⊢
  have p9 : (128 : Nat) ^ 9 = 9223372036854775808 := by decide
  have p10 : (128 : Nat) ^ 10 = 1180591620717411303424 := by decide
  rw [show (10 - 1 : Nat) = 9 from rfl, p9] at h10
  rw [p9] at hb
  rw [p10, h10] at h11
  have hx128 : x % 128 = x := Nat.mod_eq_of_lt hlt
  rw [hx128] at h11
  show x / 2 ^ (64 - 7 * 9 - 1) = 0 ∨ x / 2 ^ (64 - 7 * 9 - 1) = 127 / 2 ^ (64 - 7 * 9 - 1)
  rw [show 64 - 7 * 9 - 1 = 0 from rfl, Nat.pow_zero, Nat.div_one, Nat.div_one]
  have h12 : v = ((val ((encS v more).take 9) + 9223372036854775808 * x : Nat) : Int) - if x < 64 then 0 else 1180591620717411303424 := h11
  clear h11
  split at h12 <;> omega

theorem back_decS (v : Int) (more : Nat) (r : List UInt8) (h1 : -9223372036854775808 ≤ v) (h2 : v < 9223372036854775808) (hm : (encS v more).length ≤ 10) :
    decS (encS v more ++ r) 64 = (v, (encS v more).length, 0) := by
  unfold decS
  rw [back_scanS v more r h1 h2 hm, if_pos rfl, List.take_left, encS_val]

/-! ### the sizes of what is taken -/
theorem decU_lt (b : List UInt8) (bits : Nat) (hb : 1 ≤ bits) : (decU b bits).1 < 2 ^ bits := by
  unfold decU
  simp only
  split
  · rename_i h
    obtain ⟨hl, hs, e, hk⟩ := scan_ok h
    have hm := most_bits bits hb
    rw [e, val_take_succ b _ hl]
    have hv := val_take_lt b (stop b)
    rw [pow128] at hv ⊢
    rcases Nat.lt_or_ge (stop b + 1) (most bits) with h1 | h1
    · have h3 : 2 ^ (7 * stop b) * (b[stop b].toNat % 128) ≤ 2 ^ (7 * stop b) * 127 := Nat.mul_le_mul_left _ (by omega)
      have h4 : (2 : Nat) ^ (7 * stop b + 7) ≤ 2 ^ bits := Nat.pow_le_pow_right (by decide) (by omega)
      rw [Nat.pow_add] at h4
      omega
    · have h2 := hk (by omega)
      simp only [okU, decide_eq_true_eq] at h2
      have h5 : b[stop b].toNat < 2 ^ (bits - 7 * stop b) := by
        rcases Nat.lt_or_ge b[stop b].toNat (2 ^ (bits - 7 * stop b)) with h | h
        · exact h
        · have := Nat.div_pos h (Nat.pow_pos (by decide)); omega
      have h6 : 2 ^ (7 * stop b) * (b[stop b].toNat % 128) ≤ 2 ^ (7 * stop b) * (2 ^ (bits - 7 * stop b) - 1) := Nat.mul_le_mul_left _ (by omega)
      have h7 : 2 ^ (7 * stop b) * 2 ^ (bits - 7 * stop b) = 2 ^ bits := by rw [← Nat.pow_add]; congr 1; omega
      have h8 : 0 < 2 ^ (bits - 7 * stop b) := Nat.pow_pos (by decide)
      rw [Nat.mul_sub, h7] at h6
      have h9 : 2 ^ (7 * stop b) * 1 ≤ 2 ^ bits := by rw [← h7]; exact Nat.mul_le_mul_left _ h8
      omega
  · exact Nat.pow_pos (by decide)

theorem most_mono {s g : Nat} (h : s ≤ g) : most s ≤ most g := by unfold most; omega

theorem small_scan {ok : Nat → Nat → Bool} {b : List UInt8} {s g : Nat} (hs : 1 ≤ s) (hg : s ≤ g) (h : (scan ok b s).2 = 0)
    (hok : ∀ x l l', x < 128 → 1 ≤ l → l ≤ l' → ok x l = true → ok x l' = true) : scan ok b g = scan ok b s := by
  obtain ⟨hl, h1, e, hk⟩ := scan_ok h
  have hm := most_mono hg
  have hb := most_bits s hs
  have e1 := scan_mk hl h1 hk
  rw [e1]
  refine scan_mk hl (by omega) fun he => ?_
  exact hok _ _ _ (stop_at b hl) (by omega) (by omega) (hk (by omega))

theorem okU_mono (x l l' : Nat) (_ : x < 128) (_ : 1 ≤ l) (h : l ≤ l') (hk : okU x l = true) : okU x l' = true := by
  simp only [okU, decide_eq_true_eq] at hk ⊢
  have : 2 ^ l ≤ 2 ^ l' := Nat.pow_le_pow_right (by decide) h
  have h0 : 0 < 2 ^ l := Nat.pow_pos (by decide)
  have h1 : x < 2 ^ l := by
    rcases Nat.lt_or_ge x (2 ^ l) with h | h
    · exact h
    · have := Nat.div_pos h h0; omega
  exact Nat.div_eq_of_lt (by omega)
theorem okS_mono (x l l' : Nat) (_ : x < 128) (h1 : 1 ≤ l) (h : l ≤ l') (hk : okS x l = true) : okS x l' = true := by
  simp only [okS, decide_eq_true_eq] at hk ⊢
  have e : 2 ^ (l' - 1) = 2 ^ (l - 1) * 2 ^ (l' - l) := by rw [← Nat.pow_add]; congr 1; omega
  rw [e, ← Nat.div_div_eq_div_mul, ← Nat.div_div_eq_div_mul]
  rcases hk with hk | hk
  · left; rw [hk]; simp
  · right; rw [hk]

theorem small_decU {b : List UInt8} {s g : Nat} (hs : 1 ≤ s) (hg : s ≤ g) (h : (decU b s).2.2 = 0) : decU b g = decU b s := by
  have h' : (scan okU b s).2 = 0 := h
  unfold decU
  rw [small_scan hs hg h' okU_mono]
theorem small_decS {b : List UInt8} {s g : Nat} (hs : 1 ≤ s) (hg : s ≤ g) (h : (decS b s).2.2 = 0) : decS b g = decS b s := by
  have h' : (scan okS b s).2 = 0 := h
  unfold decS
  rw [small_scan hs hg h' okS_mono]

/-- a top digit, with its sign -/
def top (x : Nat) : Int := if x < 64 then x else (x : Int) - 128

theorem sval_take_succ (b : List UInt8) (k : Nat) (h : k < b.length) (hx : b[k].toNat < 128) :
    sval (b.take (k + 1)) = (val (b.take k) : Int) + ((128 ^ k : Nat) : Int) * top b[k].toNat := by
  have hlen : (b.take (k + 1)).length = k + 1 := by rw [List.length_take]; omega
  have h1 := sval_val (b.take (k + 1)) (by omega)
  have h2 : (b.take (k + 1))[(b.take (k + 1)).length - 1]'(by omega) = b[k] := by
    simp only [hlen, Nat.add_sub_cancel, List.getElem_take]
  rw [h2, Nat.mod_eq_of_lt hx, hlen, val_take_succ b k h, Nat.mod_eq_of_lt hx, Nat.pow_succ] at h1
  rw [h1]
  unfold top
  generalize 128 ^ k = P
  generalize b[k].toNat = x at hx ⊢
  split
  · push_cast; omega
  · push_cast; rw [Int.mul_sub]; omega

theorem decS_range (b : List UInt8) (bits : Nat) (hb : 1 ≤ bits) : -((2 ^ (bits - 1) : Nat) : Int) ≤ (decS b bits).1 ∧ (decS b bits).1 < ((2 ^ (bits - 1) : Nat) : Int) := by
  have hpos : 0 < 2 ^ (bits - 1) := Nat.pow_pos (by decide)
  unfold decS
  simp only
  split
  · rename_i h
    obtain ⟨hl, hs, e, hk⟩ := scan_ok h
    have hm := most_bits bits hb
    have hx := stop_at b hl
    rw [e, sval_take_succ b _ hl hx]
    have hv := val_take_lt b (stop b)
    have key : ∃ q : Nat, 128 ^ stop b * 2 ^ q ≤ 2 ^ (bits - 1) ∧ -((2 ^ q : Nat) : Int) ≤ top b[stop b].toNat ∧ top b[stop b].toNat < ((2 ^ q : Nat) : Int) := by
      rcases Nat.lt_or_ge (stop b + 1) (most bits) with h1 | h1
      · refine ⟨6, ?_, ?_, ?_⟩
        · rw [pow128, ← Nat.pow_add]; exact Nat.pow_le_pow_right (by decide) (by omega)
        · unfold top; split <;> omega
        · unfold top; split <;> omega
      · have h2 := hk (by omega)
        simp only [okS, decide_eq_true_eq] at h2
        have h7 : bits - 7 * stop b ≤ 7 := by omega
        have h8 : 1 ≤ bits - 7 * stop b := by omega
        refine ⟨bits - 7 * stop b - 1, ?_, ?_⟩
        · rw [pow128, ← Nat.pow_add]; exact Nat.pow_le_pow_right (by decide) (by omega)
        · generalize bits - 7 * stop b = l at h2 h7 h8
          generalize b[stop b].toNat = x at hx h2 ⊢
          have hlv : l = 1 ∨ l = 2 ∨ l = 3 ∨ l = 4 ∨ l = 5 ∨ l = 6 ∨ l = 7 := by omega
          unfold top
          rcases hlv with rfl | rfl | rfl | rfl | rfl | rfl | rfl <;> simp at h2 ⊢ <;> split <;> omega
    obtain ⟨q, k1, k2, k3⟩ := key
    generalize 128 ^ stop b = P at hv k1
    generalize 2 ^ q = Q at k1 k2 k3
    generalize top b[stop b].toNat = T at k2 k3
    generalize val (List.take (stop b) b) = V at hv
    have m1 : (P : Int) * -(Q : Int) ≤ P * T := Int.mul_le_mul_of_nonneg_left k2 (by omega)
    have m2 : (P : Int) * T ≤ P * (Q - 1) := Int.mul_le_mul_of_nonneg_left (by omega) (by omega)
    rw [Int.mul_neg] at m1
    rw [Int.mul_sub] at m2
    have m3 : (P : Int) * Q ≤ ((2 ^ (bits - 1) : Nat) : Int) := by rw [← Int.natCast_mul]; exact Int.ofNat_le.2 k1
    omega
  · omega

end Go.Proofs.Leb
