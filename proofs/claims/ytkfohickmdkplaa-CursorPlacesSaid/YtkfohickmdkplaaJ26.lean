/-
  Plain mathematics of texts: no program in sight.
-/

namespace Go.Proofs.Utf

/-- how many bytes follow a first one, and from where to where the next of them may be -/
def cls (x : Nat) : Option (Nat × Nat × Nat) :=
  if x < 128 then some (0, 0, 0)
  else if x < 194 ∨ 244 < x then none
  else if x < 224 then some (1, 128, 191)
  else if x = 224 then some (2, 160, 191)
  else if x = 237 then some (2, 128, 159)
  else if x < 240 then some (2, 128, 191)
  else if x = 240 then some (3, 144, 191)
  else if x = 244 then some (3, 128, 143)
  else some (3, 128, 191)

/-- byte by byte: how many must come more, and whether it is a front -/
def run : List UInt8 → Nat → Nat → Nat → Nat × Bool
  | [], m, _, _ => (m, true)
  | x :: t, m, lo, hi =>
    if m = 0 then
      match cls x.toNat with
      | none => (0, false)
      | some (m', lo', hi') => run t m' lo' hi'
    else if x.toNat < lo ∨ hi < x.toNat then (0, false)
    else run t (m - 1) 128 191

/-- may these bytes follow? -/
def tail : List UInt8 → Nat → Nat → Nat → Bool
  | _, 0, _, _ => true
  | [], _ + 1, _, _ => true
  | y :: t, m + 1, lo, hi => decide (lo ≤ y.toNat ∧ y.toNat ≤ hi) && tail t m 128 191

/-- does a sign of a byte and so many more begin so? -/
def sign (s : List UInt8) (size : Nat) : Bool :=
  match s with
  | [] => false
  | x :: t => match cls x.toNat with
    | none => false
    | some (m, lo, hi) => decide (m = size) && tail t m lo hi

/-! ### the document's answer -/
def is (n : Nat) : Bool := decide (n ≤ 1114111 ∧ (n < 55296 ∨ 57343 < n))
def clip (low high least most : Nat) : Bool :=
  let low1 := if low < least then least else low
  let high1 := if most ≤ high then most - 1 else high
  let low2 := if 55296 ≤ low1 ∧ low1 ≤ 57343 then 57344 else low1
  decide (low2 ≤ high1)
/-- the least and the greatest number with so many groups of 6 bits more -/
def wide : Nat → Nat → Nat → Nat × Nat
  | 0, lo, hi => (lo, hi)
  | g + 1, lo, hi => wide g (64 * lo) (64 * hi + 63)
def go : List UInt8 → Nat → Nat → Nat → Nat → Bool
  | _, 0, n, least, most => decide (least ≤ n ∧ n < most) && is n
  | [], g + 1, n, least, most => clip (wide (g + 1) n n).1 (wide (g + 1) n n).2 least most
  | d :: t, g + 1, n, least, most => if d.toNat < 128 ∨ 191 < d.toNat then false else go t g (64 * n + (d.toNat - 128)) least most
def begins (s : List UInt8) (size head room least most : Nat) : Bool :=
  match s with
  | [] => false
  | x :: t => if x.toNat < head ∨ head + room ≤ x.toNat then false else go t size (x.toNat - head) least most

theorem u8_lt (x : UInt8) : x.toNat < 256 := x.toNat_lt

theorem cls_cases (x : Nat) : (x < 128 ∧ cls x = some (0, 0, 0)) ∨ ((128 ≤ x ∧ x < 194 ∨ 244 < x) ∧ cls x = none) ∨ ((194 ≤ x ∧ x < 224) ∧ cls x = some (1, 128, 191)) ∨
    (x = 224 ∧ cls x = some (2, 160, 191)) ∨ (x = 237 ∧ cls x = some (2, 128, 159)) ∨ ((225 ≤ x ∧ x < 240 ∧ x ≠ 237) ∧ cls x = some (2, 128, 191)) ∨
    (x = 240 ∧ cls x = some (3, 144, 191)) ∨ (x = 244 ∧ cls x = some (3, 128, 143)) ∨ ((241 ≤ x ∧ x < 244) ∧ cls x = some (3, 128, 191)) := by
  unfold cls
  repeat' split
  all_goals simp only [reduceCtorEq, and_true, and_false, or_false, false_or, Option.some.injEq, Prod.mk.injEq, Nat.reduceEqDiff]
  all_goals omega

theorem wide_eq : ∀ (g lo hi : Nat), wide g lo hi = (lo * 64 ^ g, (hi + 1) * 64 ^ g - 1)
  | 0, lo, hi => by simp [wide]
  | g + 1, lo, hi => by
    rw [wide, wide_eq g, Nat.pow_succ]
    congr 1
    · rw [Nat.mul_comm 64 lo, Nat.mul_assoc, Nat.mul_comm 64]
    · rw [show 64 * hi + 63 + 1 = (hi + 1) * 64 by omega, Nat.mul_assoc, Nat.mul_comm 64]

/-- all numbers that begin so are right; none is -/
def good (g n least most : Nat) : Prop := least ≤ n * 64 ^ g ∧ (n + 1) * 64 ^ g ≤ most ∧ most ≤ 1114112 ∧ ((n + 1) * 64 ^ g ≤ 55296 ∨ 57344 ≤ n * 64 ^ g)
def bad (g n least most : Nat) : Prop := 0 < most ∧ ((n + 1) * 64 ^ g ≤ least ∨ most ≤ n * 64 ^ g ∨ (55296 ≤ n * 64 ^ g ∧ (n + 1) * 64 ^ g ≤ 57344))

theorem step_pow (g n d : Nat) (hd : d ≤ 63) : n * 64 ^ (g + 1) ≤ (64 * n + d) * 64 ^ g ∧ (64 * n + d + 1) * 64 ^ g ≤ (n + 1) * 64 ^ (g + 1) := by
  have e1 : n * 64 ^ (g + 1) = 64 * n * 64 ^ g := by rw [Nat.pow_succ, Nat.mul_comm 64 n, Nat.mul_assoc, Nat.mul_comm 64]
  have e2 : (n + 1) * 64 ^ (g + 1) = (64 * n + 64) * 64 ^ g := by rw [Nat.pow_succ, show 64 * n + 64 = (n + 1) * 64 by omega, Nat.mul_assoc, Nat.mul_comm 64]
  rw [e1, e2]
  exact ⟨Nat.mul_le_mul_right _ (by omega), Nat.mul_le_mul_right _ (by omega)⟩
theorem good_step {g n d least most : Nat} (h : good (g + 1) n least most) (hd : d ≤ 63) : good g (64 * n + d) least most := by
  have := step_pow g n d hd
  unfold good at h ⊢
  omega
theorem bad_step {g n d least most : Nat} (h : bad (g + 1) n least most) (hd : d ≤ 63) : bad g (64 * n + d) least most := by
  have := step_pow g n d hd
  unfold bad at h ⊢
  omega
theorem clip_ab {a b c least most : Nat} (h1 : 0 < c) (h2 : b = a + c) (h : least ≤ a ∧ b ≤ most ∧ most ≤ 1114112 ∧ (b ≤ 55296 ∨ 57344 ≤ a)) : clip a (b - 1) least most = true := by
  unfold clip
  dsimp only
  rw [decide_eq_true_eq, if_neg (by omega : ¬ a < least), if_neg (by omega : ¬ most ≤ b - 1), if_neg (by omega)]
  omega
theorem clip_no {a b c least most : Nat} (h1 : 0 < c) (h2 : b = a + c) (h0 : 0 < most) (h : b ≤ least ∨ most ≤ a ∨ (55296 ≤ a ∧ b ≤ 57344)) : clip a (b - 1) least most = false := by
  unfold clip
  dsimp only
  rw [decide_eq_false_iff_not]
  repeat' split
  all_goals omega
theorem clip_good {g n least most : Nat} (h : good g n least most) : clip (wide g n n).1 (wide g n n).2 least most = true := by
  rw [wide_eq]
  exact clip_ab (Nat.pow_pos (by decide) : 0 < 64 ^ g) (by rw [Nat.add_mul, Nat.one_mul]) h
theorem clip_bad {g n least most : Nat} (h : bad g n least most) : clip (wide g n n).1 (wide g n n).2 least most = false := by
  rw [wide_eq]
  exact clip_no (Nat.pow_pos (by decide) : 0 < 64 ^ g) (by rw [Nat.add_mul, Nat.one_mul]) h.1 h.2

theorem go_good : ∀ (t : List UInt8) (g n least most : Nat), good g n least most → go t g n least most = tail t g 128 191
  | t, 0, n, least, most, h => by
    have e1 : go t 0 n least most = (decide (least ≤ n ∧ n < most) && is n) := by cases t <;> rfl
    have e2 : tail t 0 128 191 = true := by cases t <;> rfl
    unfold good at h
    rw [e1, e2]
    unfold is
    simp only [Nat.pow_zero, Nat.mul_one] at h
    rw [decide_eq_true (by omega : least ≤ n ∧ n < most), decide_eq_true (by omega)]
    rfl
  | [], g + 1, n, least, most, h => clip_good h
  | d :: t, g + 1, n, least, most, h => by
    rw [go, tail]
    by_cases hd : d.toNat < 128 ∨ 191 < d.toNat
    · rw [if_pos hd, decide_eq_false (by omega)]; rfl
    · rw [if_neg hd, decide_eq_true (by omega), go_good t g _ least most (good_step h (by omega))]; rfl
theorem go_bad : ∀ (t : List UInt8) (g n least most : Nat), bad g n least most → go t g n least most = false
  | t, 0, n, least, most, h => by
    have e1 : go t 0 n least most = (decide (least ≤ n ∧ n < most) && is n) := by cases t <;> rfl
    unfold bad at h
    rw [e1]
    unfold is
    simp only [Nat.pow_zero, Nat.mul_one] at h
    rw [Bool.and_eq_false_iff, decide_eq_false_iff_not, decide_eq_false_iff_not]
    omega
  | [], g + 1, n, least, most, h => clip_bad h
  | d :: t, g + 1, n, least, most, h => by
    rw [go]
    split
    · rfl
    · exact go_bad t g _ least most (bad_step h (by omega))

/-- what a first byte that has a class asks of the next -/
def ask (g n lo hi least most : Nat) : Prop :=
  128 ≤ lo ∧ hi ≤ 191 ∧ clip (n * 64 ^ (g + 1)) ((n + 1) * 64 ^ (g + 1) - 1) least most = true ∧
    ∀ d, 128 ≤ d → d ≤ 191 → (lo ≤ d ∧ d ≤ hi → good g (64 * n + (d - 128)) least most) ∧ (¬ (lo ≤ d ∧ d ≤ hi) → bad g (64 * n + (d - 128)) least most)
theorem go_ask {g n lo hi least most : Nat} (h : ask g n lo hi least most) : ∀ t, go t (g + 1) n least most = tail t (g + 1) lo hi := by
  obtain ⟨h1, h2, h3, h4⟩ := h
  intro t
  cases t with
  | nil =>
    rw [go, wide_eq]
    exact h3
  | cons d t =>
    rw [go, tail]
    by_cases hd : d.toNat < 128 ∨ 191 < d.toNat
    · rw [if_pos hd, decide_eq_false (by omega)]; rfl
    · rw [if_neg hd]
      by_cases hb : lo ≤ d.toNat ∧ d.toNat ≤ hi
      · rw [decide_eq_true hb, go_good _ _ _ _ _ ((h4 d.toNat (by omega) (by omega)).1 hb)]; rfl
      · rw [decide_eq_false hb, go_bad _ _ _ _ _ ((h4 d.toNat (by omega) (by omega)).2 hb)]; rfl

theorem sign_other {x : UInt8} {t : List UInt8} {m lo hi size : Nat} (e : cls x.toNat = some (m, lo, hi)) (h : m ≠ size) : sign (x :: t) size = false := by
  unfold sign; dsimp only; rw [e]; dsimp only; rw [decide_eq_false h]; rfl
theorem sign_none {x : UInt8} {t : List UInt8} {size : Nat} (e : cls x.toNat = none) : sign (x :: t) size = false := by
  unfold sign; dsimp only; rw [e]
theorem sign_this {x : UInt8} {t : List UInt8} {m lo hi : Nat} (e : cls x.toNat = some (m, lo, hi)) : sign (x :: t) m = tail t m lo hi := by
  unfold sign; dsimp only; rw [e]; dsimp only; rw [decide_eq_true rfl]; rfl
theorem begins_out {x : UInt8} {t : List UInt8} {size head room least most : Nat} (h : x.toNat < head ∨ head + room ≤ x.toNat) : begins (x :: t) size head room least most = false := by
  unfold begins; dsimp only; rw [if_pos h]
theorem begins_in {x : UInt8} {t : List UInt8} {size head room least most : Nat} (h : ¬ (x.toNat < head ∨ head + room ≤ x.toNat)) : begins (x :: t) size head room least most = go t size (x.toNat - head) least most := by
  unfold begins; dsimp only; rw [if_neg h]

theorem begins0 (s : List UInt8) : begins s 0 0 128 0 128 = sign s 0 := by
  cases s with
  | nil => rfl
  | cons x t =>
    rcases cls_cases x.toNat with ⟨h, e⟩ | ⟨h, e⟩ | ⟨h, e⟩ | ⟨h, e⟩ | ⟨h, e⟩ | ⟨h, e⟩ | ⟨h, e⟩ | ⟨h, e⟩ | ⟨h, e⟩
    · rw [sign_this e, begins_in (by omega), go_good]
      · cases t <;> rfl
      · unfold good; simp only [Nat.pow_zero]; omega
    · rw [sign_none e, begins_out (by omega)]
    all_goals rw [sign_other e (by decide), begins_out (by omega)]
theorem ask_mk {g n lo hi least most c : Nat} (hc : 64 ^ g = c) (hm : 0 < most) (h1 : 128 ≤ lo) (h2 : hi ≤ 191) (h3 : clip (n * (c * 64)) ((n + 1) * (c * 64) - 1) least most = true)
    (h4 : ∀ d, 128 ≤ d → d ≤ 191 → (lo ≤ d ∧ d ≤ hi → least ≤ (64 * n + (d - 128)) * c ∧ (64 * n + (d - 128) + 1) * c ≤ most ∧ most ≤ 1114112 ∧ ((64 * n + (d - 128) + 1) * c ≤ 55296 ∨ 57344 ≤ (64 * n + (d - 128)) * c)) ∧
      (¬ (lo ≤ d ∧ d ≤ hi) → (64 * n + (d - 128) + 1) * c ≤ least ∨ most ≤ (64 * n + (d - 128)) * c ∨ (55296 ≤ (64 * n + (d - 128)) * c ∧ (64 * n + (d - 128) + 1) * c ≤ 57344))) : ask g n lo hi least most := by
  refine ⟨h1, h2, ?_, ?_⟩
  · rw [Nat.pow_succ, hc]; exact h3
  · intro d d1 d2
    unfold good bad
    rw [hc]
    exact ⟨(h4 d d1 d2).1, fun h => ⟨hm, (h4 d d1 d2).2 h⟩⟩
theorem begins1 (s : List UInt8) : begins s 1 192 32 128 2048 = sign s 1 := by
  cases s with
  | nil => rfl
  | cons x t =>
    have hx := u8_lt x
    rcases cls_cases x.toNat with ⟨h, e⟩ | ⟨h, e⟩ | ⟨h, e⟩ | ⟨h, e⟩ | ⟨h, e⟩ | ⟨h, e⟩ | ⟨h, e⟩ | ⟨h, e⟩ | ⟨h, e⟩
    · rw [sign_other e (by decide), begins_out (by omega)]
    · rw [sign_none e]
      by_cases hr : x.toNat < 192 ∨ 192 + 32 ≤ x.toNat
      · rw [begins_out hr]
      · rw [begins_in hr]
        exact go_bad t 1 _ _ _ (by unfold bad; simp only [Nat.pow_one]; omega)
    · rw [sign_this e, begins_in (by omega)]
      refine go_ask (ask_mk (c := 1) rfl (by decide) (by omega) (by omega) ?_ ?_) t
      · unfold clip; dsimp only; rw [decide_eq_true_eq]; repeat' split
        all_goals omega
      · intro d d1 d2; constructor <;> intro _ <;> omega
    all_goals rw [sign_other e (by decide), begins_out (by omega)]
theorem begins2 (s : List UInt8) : begins s 2 224 16 2048 65536 = sign s 2 := by
  cases s with
  | nil => rfl
  | cons x t =>
    have hx := u8_lt x
    rcases cls_cases x.toNat with ⟨h, e⟩ | ⟨h, e⟩ | ⟨h, e⟩ | ⟨h, e⟩ | ⟨h, e⟩ | ⟨h, e⟩ | ⟨h, e⟩ | ⟨h, e⟩ | ⟨h, e⟩
    · rw [sign_other e (by decide), begins_out (by omega)]
    · rw [sign_none e, begins_out (by omega)]
    · rw [sign_other e (by decide), begins_out (by omega)]
    · rw [sign_this e, begins_in (by omega)]
      refine go_ask (ask_mk (c := 64) rfl (by decide) (by omega) (by omega) ?_ ?_) t
      · unfold clip; dsimp only; rw [decide_eq_true_eq]; repeat' split
        all_goals omega
      · intro d d1 d2; constructor <;> intro _ <;> omega
    · rw [sign_this e, begins_in (by omega)]
      refine go_ask (ask_mk (c := 64) rfl (by decide) (by omega) (by omega) ?_ ?_) t
      · unfold clip; dsimp only; rw [decide_eq_true_eq]; repeat' split
        all_goals omega
      · intro d d1 d2; constructor <;> intro _ <;> omega
    · rw [sign_this e, begins_in (by omega)]
      refine go_ask (ask_mk (c := 64) rfl (by decide) (by omega) (by omega) ?_ ?_) t
      · unfold clip; dsimp only; rw [decide_eq_true_eq]; repeat' split
        all_goals omega
      · intro d d1 d2; constructor <;> intro _ <;> omega
    all_goals rw [sign_other e (by decide), begins_out (by omega)]
theorem begins3 (s : List UInt8) : begins s 3 240 8 65536 1114112 = sign s 3 := by
  cases s with
  | nil => rfl
  | cons x t =>
    have hx := u8_lt x
    rcases cls_cases x.toNat with ⟨h, e⟩ | ⟨h, e⟩ | ⟨h, e⟩ | ⟨h, e⟩ | ⟨h, e⟩ | ⟨h, e⟩ | ⟨h, e⟩ | ⟨h, e⟩ | ⟨h, e⟩
    · rw [sign_other e (by decide), begins_out (by omega)]
    · rw [sign_none e]
      by_cases hr : x.toNat < 240 ∨ 240 + 8 ≤ x.toNat
      · rw [begins_out hr]
      · rw [begins_in hr]
        exact go_bad t 3 _ _ _ (by unfold bad; rw [show (64 : Nat) ^ 3 = 262144 by decide]; omega)
    · rw [sign_other e (by decide), begins_out (by omega)]
    · rw [sign_other e (by decide), begins_out (by omega)]
    · rw [sign_other e (by decide), begins_out (by omega)]
    · rw [sign_other e (by decide), begins_out (by omega)]
    all_goals
      rw [sign_this e, begins_in (by omega)]
      refine go_ask (ask_mk (c := 4096) rfl (by decide) (by omega) (by omega) ?_ ?_) t
      · unfold clip; dsimp only; rw [decide_eq_true_eq]; repeat' split
        all_goals omega
      · intro d d1 d2; constructor <;> intro _ <;> omega

/-! ### the whole -/
/-- sign by sign -/
def need (s : List UInt8) : Nat × Bool :=
  match s with
  | [] => (0, true)
  | x :: t => match cls x.toNat with
    | none => (0, false)
    | some (m, lo, hi) => if tail t m lo hi = true then (if t.length < m then (m - t.length, true) else need (t.drop m)) else (0, false)
termination_by s.length
decreasing_by simp; omega

theorem run0 (t : List UInt8) (lo hi : Nat) : run t 0 lo hi = run t 0 0 0 := by
  cases t with
  | nil => rfl
  | cons x t => rw [run, run, if_pos rfl, if_pos rfl]
theorem run_tail : ∀ (m : Nat) (t : List UInt8) (lo hi : Nat), run t m lo hi = if tail t m lo hi = true then (if t.length < m then (m - t.length, true) else run (t.drop m) 0 0 0) else (0, false)
  | 0, t, lo, hi => by
    have e : tail t 0 lo hi = true := by cases t <;> rfl
    rw [e, if_pos rfl, if_neg (Nat.not_lt_zero _), run0]; rfl
  | m + 1, [], lo, hi => by simp [run, tail]
  | m + 1, y :: t, lo, hi => by
    rw [run, tail, if_neg (Nat.succ_ne_zero m)]
    by_cases h : y.toNat < lo ∨ hi < y.toNat
    · rw [if_pos h, decide_eq_false (by omega)]; rfl
    · rw [if_neg h, decide_eq_true (by omega), Bool.true_and, Nat.add_sub_cancel, run_tail m t]
      simp only [List.length_cons, Nat.add_lt_add_iff_right, Nat.add_sub_add_right, List.drop_succ_cons]
theorem run_need : ∀ (k : Nat) (s : List UInt8), s.length ≤ k → run s 0 0 0 = need s
  | _, [], _ => by rw [need]; rfl
  | 0, _ :: _, h => by simp at h
  | k + 1, x :: t, h => by
    rw [run, need, if_pos rfl]
    cases cls x.toNat with
    | none => rfl
    | some p =>
      obtain ⟨m, lo, hi⟩ := p
      dsimp only
      rw [run_tail m t lo hi]
      split
      · split
        · rfl
        · exact run_need k _ (by simp at h ⊢; omega)
      · rfl
end Go.Proofs.Utf
