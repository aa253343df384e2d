/-
  Plain mathematics of reading: what was put is read as it was. No program in sight.
-/
import Derived.Test.YtjagimlmclejeaaJ28
import Derived.Test.YtjagimlmclejeaaJ2
namespace Go.Proofs.Cur
open Go.Proofs.Leb Go.Proofs.Span

/-- these bytes stand at a place -/
def Here (bs : List UInt8) (p : Nat) (l : List UInt8) : Prop := ∃ t, bs.drop p = l ++ t
theorem Here.nil (bs : List UInt8) (p : Nat) : Here bs p [] := ⟨bs.drop p, rfl⟩
theorem Here.left {bs : List UInt8} {p : Nat} {a b : List UInt8} (h : Here bs p (a ++ b)) : Here bs p a := by
  obtain ⟨t, h⟩ := h
  exact ⟨b ++ t, by rw [h, List.append_assoc]⟩
theorem Here.right {bs : List UInt8} {p : Nat} {a b : List UInt8} (h : Here bs p (a ++ b)) : Here bs (p + a.length) b := by
  obtain ⟨t, h⟩ := h
  refine ⟨t, ?_⟩
  rw [← List.drop_drop, h, List.append_assoc, List.drop_left]
theorem Here.tail {bs : List UInt8} {p : Nat} {x : UInt8} {b : List UInt8} (h : Here bs p (x :: b)) : Here bs (p + 1) b := Here.right (a := [x]) h
theorem Here.head {bs : List UInt8} {p : Nat} {x : UInt8} {b : List UInt8} (h : Here bs p (x :: b)) : ∃ h : p < bs.length, bs[p] = x := by
  obtain ⟨t, h⟩ := h
  have h0 : bs[p]? = some x := by
    have : (bs.drop p)[0]? = some x := by rw [h]; rfl
    rwa [List.getElem?_drop, Nat.add_zero] at this
  obtain ⟨hp, hx⟩ := List.getElem?_eq_some_iff.1 h0
  exact ⟨hp, hx⟩
theorem Here.all (bs : List UInt8) : Here bs 0 bs := ⟨[], by simp⟩
theorem Here.len {bs : List UInt8} {p : Nat} {l : List UInt8} (h : Here bs p l) (hp : p ≤ bs.length) : p + l.length ≤ bs.length := by
  obtain ⟨t, h⟩ := h
  have := congrArg List.length h
  simp at this
  omega

theorem byteO_here {bs : List UInt8} {lim : Int} {may : UInt8 → Int → Prop} {p : Nat} {x : UInt8} {b : List UInt8} (h : Here bs p (x :: b)) (h0 : rest lim p ≠ 0) (hm : may x (rest lim (p + 1))) : byteO bs lim may p = .ok x (p + 1) := by
  obtain ⟨hp, rfl⟩ := h.head
  unfold byteO
  rw [if_neg h0, dif_pos hp, if_pos hm]
theorem byteO_not {bs : List UInt8} {lim : Int} {may : UInt8 → Int → Prop} {p : Nat} {x : UInt8} {b : List UInt8} (h : Here bs p (x :: b)) (h0 : rest lim p ≠ 0) (hm : ¬ may x (rest lim (p + 1))) : byteO bs lim may p = .up p 2 := by
  obtain ⟨hp, rfl⟩ := h.head
  unfold byteO
  rw [if_neg h0, dif_pos hp, if_neg hm]
theorem numO_here {bs : List UInt8} {lim : Int} {may : List UInt8 → UInt8 → Int → Prop} {x : UInt8} (hx : x.toNat < 128) : ∀ (a ds : List UInt8) (n p : Nat), a.length < n → (∀ y ∈ a, 128 ≤ y.toNat) →
    (∀ i (h : i < a.length), may (ds ++ a.take i) a[i] (rest lim (p + i + 1))) → may (ds ++ a) x (rest lim (p + a.length + 1)) → Here bs p (a ++ [x]) → (∀ i, i ≤ a.length → rest lim (p + i) ≠ 0) →
    numO bs lim may n ds p = .ok (ds ++ (a ++ [x])) (p + a.length + 1)
  | [], ds, 0, p, hn, _, _, _, _, _ => absurd hn (by simp)
  | [], ds, n + 1, p, _, _, _, hm, hh, hr => by
    have hm' : may ds x (rest lim (p + 1)) := by simpa using hm
    have hs : numO bs lim may (n + 1) ds p = (byteO bs lim (may ds) p).bind fun x q => if x.toNat < 128 then .ok (ds ++ [x]) q else numO bs lim may n (ds ++ [x]) q := rfl
    rw [hs, byteO_here (may := may ds) hh (hr 0 (Nat.le_refl _)) hm']
    simp only [Out.bind]
    rw [if_pos hx]
    rfl
  | y :: a, ds, 0, p, hn, _, _, _, _, _ => absurd hn (by simp)
  | y :: a, ds, n + 1, p, hn, hy, hk, hm, hh, hr => by
    have hs : numO bs lim may (n + 1) ds p = (byteO bs lim (may ds) p).bind fun x q => if x.toNat < 128 then .ok (ds ++ [x]) q else numO bs lim may n (ds ++ [x]) q := rfl
    have h0 : may ds y (rest lim (p + 1)) := by
      have := hk 0 (by simp)
      rw [List.getElem_cons_zero, List.take_zero, List.append_nil] at this
      exact this
    rw [hs, byteO_here (may := may ds) hh (hr 0 (Nat.zero_le _)) h0]
    simp only [Out.bind]
    rw [if_neg (by have := hy y (by simp); omega)]
    have ih := numO_here (bs := bs) (lim := lim) (may := may) hx a (ds ++ [y]) n (p + 1) (by simp at hn; omega) (fun z hz => hy z (by simp [hz]))
      (fun i hi => by
        have := hk (i + 1) (by simp; omega)
        simp only [List.take_succ_cons, List.getElem_cons_succ] at this
        rw [List.append_assoc, List.singleton_append, show p + 1 + i + 1 = p + (i + 1) + 1 by omega]
        exact this)
      (by rw [List.append_assoc, List.singleton_append, show p + 1 + a.length + 1 = p + (y :: a).length + 1 by simp; omega]; exact hm)
      hh.tail (fun i hi => by rw [show p + 1 + i = p + (i + 1) by omega]; exact hr (i + 1) (by simp; omega))
    rw [ih]
    congr 1
    · simp
    · simp; omega

/-- digits of a number, as they are put -/
def Num7 (ds : List UInt8) : Prop := ∃ a x, ds = a ++ [x] ∧ x.toNat < 128 ∧ ∀ y ∈ a, 128 ≤ y.toNat
theorem num7_of_stop {ds : List UInt8} (h : stop ds + 1 = ds.length) : Num7 ds := by
  have hl : stop ds < ds.length := by omega
  refine ⟨ds.take (stop ds), ds[stop ds], ?_, stop_at ds hl, fun y hy => ?_⟩
  · rw [← take_snoc ds _ hl, List.take_of_length_le (by omega)]
  · obtain ⟨i, hi, rfl⟩ := List.getElem_of_mem hy
    rw [List.getElem_take]
    rw [List.length_take] at hi
    exact stop_before ds i (by omega) (by omega)
theorem num7U (v more : Nat) : Num7 (encU v more) := num7_of_stop (by have := encU_stop [] v more; rwa [List.append_nil] at this)
theorem num7S (v : Int) (more : Nat) : Num7 (encS v more) := num7_of_stop (by have := encS_stop [] v more; rwa [List.append_nil] at this)

/-- a place as far as the limit lets it come -/
def Far (lim : Int) (p k : Nat) : Prop := lim = -1 ∨ ((p : Int) + k ≤ lim ∧ lim < p + 1099511627776)
theorem Far.add {lim : Int} {p k m : Nat} (h : Far lim p (k + m)) : Far lim (p + k) m := by
  unfold Far at *
  omega
theorem Far.less {lim : Int} {p k m : Nat} (h : Far lim p m) (hk : k ≤ m) : Far lim p k := by
  unfold Far at *
  omega
theorem Far.ne {lim : Int} {p k : Nat} (h : Far lim p (k + 1)) : rest lim p ≠ 0 := by
  unfold Far rest at *
  split <;> omega
theorem Far.behind {lim : Int} {p k : Nat} (h : Far lim p k) : behind (rest lim p) k = rest lim (p + k) := by
  unfold Far at h
  unfold Cur.behind rest
  by_cases e : lim = -1
  · simp [e]
  · rw [if_neg e, if_neg e, if_pos (by omega)]
    omega
theorem Far.le {lim : Int} {p k : Nat} (h : Far lim p k) : (k : Int) ≤ rest lim p ∨ lim = -1 := by
  unfold Far at h
  unfold rest
  split <;> omega
theorem fits_cut {S : Int → Nat → Prop} {b c : List UInt8} {r : Int} (hS : S r (val (b ++ c))) (hv : val (b ++ c) < 4294967296) : fits S (val b) b.length c.length r := by
  have h1 := val_lt b
  have h2 := val_lt c
  refine ⟨val (b ++ c), hS, hv, ?_, ?_⟩
  · rw [val_append, Nat.add_mul_mod_self_left]
    exact Nat.mod_eq_of_lt h1
  · rw [val_append, Nat.add_mul_div_left _ _ (Nat.pow_pos (by decide)), Nat.div_eq_of_lt h1, Nat.zero_add]
    exact h2
theorem mayU_mid {S : Int → Nat → Prop} {lim : Int} {p : Nat} {a : List UInt8} {x : UInt8} (hl : a.length + 1 ≤ 5) (hv : val (a ++ [x]) < 4294967296) (ha : ∀ y ∈ a, 128 ≤ y.toNat) (hf : Far lim p (a.length + 1)) (hS : S (rest lim (p + a.length + 1)) (val (a ++ [x])))
    (i : Nat) (hi : i < a.length) : mayU S ([] ++ a.take i) a[i] (rest lim (p + i + 1)) := by
  have hy := ha a[i] (List.getElem_mem hi)
  have f2 : Far lim (p + i + 1) (a.length - i) := by unfold Far at *; omega
  have e : a ++ [x] = (a.take i ++ [a[i]]) ++ (a.drop (i + 1) ++ [x]) := by
    rw [← take_snoc a i hi, ← List.append_assoc, List.take_append_drop]
  have hl3 : (a.take i ++ [a[i]]).length = i + 1 := by simp; omega
  have hl5 : (a.drop (i + 1) ++ [x]).length = a.length - i := by simp; omega
  have hl4 : (a.take i).length = i := by simp; omega
  have hc := fits_cut (S := S) (b := a.take i ++ [a[i]]) (c := a.drop (i + 1) ++ [x]) (r := rest lim (p + a.length + 1)) (by rw [← e]; exact hS) (by rw [← e]; exact hv)
  rw [hl3, hl5] at hc
  have hb := f2.behind
  rw [show p + i + 1 + (a.length - i) = p + a.length + 1 by omega] at hb
  have hle := f2.le
  rw [List.nil_append]
  unfold mayU comes
  rw [if_neg (by omega), hl4]
  refine ⟨a.length - i, by omega, by omega, ?_, ?_⟩
  · rcases hle with h | h
    · exact h
    · unfold rest; rw [if_pos h]; omega
  · rw [hb]
    exact hc
theorem mayU_fin {S : Int → Nat → Prop} {r : Int} {a : List UInt8} {x : UInt8} (hx : x.toNat < 128) (hv : val (a ++ [x]) < 4294967296) (hS : S r (val (a ++ [x]))) : mayU S ([] ++ a) x r := by
  have hlt := val_lt (a ++ [x])
  rw [List.nil_append]
  unfold mayU comes
  rw [if_pos hx]
  have e : a.length + 1 = (a ++ [x]).length := by simp
  show fits S (val (a ++ [x])) (a.length + 1) 0 _
  rw [e, fits_zero hlt]
  exact ⟨hS, hv⟩
theorem uintO_here {bs : List UInt8} {lim : Int} {S : Int → Nat → Prop} {p : Nat} {ds : List UInt8} (h7 : Num7 ds) (hl : ds.length ≤ 5) (hv : val ds < 4294967296) (hh : Here bs p ds) (hf : Far lim p ds.length) (hS : S (rest lim (p + ds.length)) (val ds)) :
    uintO bs lim S p = .ok ds (p + ds.length) := by
  obtain ⟨a, x, rfl, hx, ha⟩ := h7
  have hlen : (a ++ [x]).length = a.length + 1 := by simp
  rw [hlen] at hl hf hS ⊢
  have hr0 : ∀ i, i ≤ a.length → rest lim (p + i) ≠ 0 := fun i hi => by
    have := (hf.less (k := i + (0 + 1)) (by omega)).add
    exact this.ne
  have := numO_here (bs := bs) (lim := lim) (may := mayU S) hx a [] 5 p (by omega) ha (mayU_mid hl hv ha hf hS) (mayU_fin hx hv hS) hh hr0
  unfold uintO
  rw [this, List.nil_append, Nat.add_assoc]
theorem numI_mk {bs : List UInt8} {lim : Int} {S : Int → Nat → Prop} {p n : Nat} {ds : List UInt8} (h7 : Num7 ds) (hl : ds.length ≤ 5) (hn : val ds = n) (hv : n < 4294967296) (hh : Here bs p ds) (hf : Far lim p ds.length) (hS : S (rest lim (p + ds.length)) n) :
    (uintO bs lim S p).bind (fun ds q => Out.ok (val ds) q) = .ok n (p + ds.length) := by
  subst hn
  rw [uintO_here h7 hl hv hh hf hS]
  rfl
/-- a count of items, and these behind it, so many bytes in all -/
theorem makes_fit {i1 i2 s1 s2 r T : Int} {n : Nat} (_ : 1 ≤ i1) (h1 : (n : Int) * i1 ≤ T) (h2 : 1099511627776 ≤ i2 ∨ T ≤ n * i2) (h0 : n = 0 → T = 0) (hi2 : 0 ≤ i2) (hs1 : 0 ≤ s1) (_ : 0 ≤ s2) (hh : Span.has s1 s2 (r - T) = true) (hr : r < 1099511627776) :
    makes i1 i2 s1 s2 r n = true := by
  unfold Span.has at hh
  simp only [Bool.and_eq_true, Bool.or_eq_true, decide_eq_true_eq] at hh
  have hnn : 0 ≤ (n : Int) * i1 := Int.mul_nonneg (by omega) (by omega)
  have hnm : 0 ≤ (n : Int) * i2 := Int.mul_nonneg (by omega) hi2
  unfold makes
  simp only
  have e1 : (if (n : Int) ≤ 0 then 0 else mul n i1) = n * i1 := by
    unfold mul
    split
    · have : (n : Int) = 0 := by omega
      rw [this]; simp
    · rw [if_neg (by omega)]
  rw [e1]
  have e2 : r ≤ Span.most (if (n : Int) ≤ 0 then 0 else if (1099511627776 : Int) ≤ i2 then 1099511627776 else mul n i2) s2 ∨ 1099511627776 ≤ Span.most (if (n : Int) ≤ 0 then 0 else if (1099511627776 : Int) ≤ i2 then 1099511627776 else mul n i2) s2 := by
    unfold Span.most mul
    by_cases hn : (n : Int) ≤ 0
    · have := h0 (by omega)
      rw [if_pos hn]
      split <;> omega
    · rw [if_neg hn]
      generalize (n : Int) * i2 = m at *
      by_cases hc : (1099511627776 : Int) ≤ i2
      · rw [if_pos hc]
        split <;> omega
      · rw [if_neg hc]
        split <;> split <;> omega
  generalize Span.most (if (n : Int) ≤ 0 then 0 else if (1099511627776 : Int) ≤ i2 then 1099511627776 else mul n i2) s2 = M at *
  generalize (n : Int) * i1 = N at *
  unfold Span.has
  simp only [Bool.and_eq_true, Bool.or_eq_true, decide_eq_true_eq]
  omega
end Go.Proofs.Cur
