/-
  Types that were put are read as they were: plain mathematics.
-/
import Derived.Test.YtjagimlmclejeaaJ30
import Derived.Test.YtjagimlmclejeaaJ29
namespace Go.Proofs.Ytjagimlmclejeaa
open Go.RowKit Go.Proofs.Leb Go.Proofs.Own Go.Proofs.Cur
set_option maxRecDepth 100000

theorem numV_is {v : Nat} (hv : v < 4294967296) (more : Nat) : Num7 (numV v more) ∧ val (numV v more) = v ∧ 1 ≤ (numV v more).length ∧ (numV v more).length ≤ 5 := by
  have hl := numV_len hv more
  unfold numV at *
  split at hl
  · rename_i h
    rw [if_pos h]
    exact ⟨num7U _ _, encU_val _ _, hl⟩
  · rename_i h
    rw [if_neg h]
    exact ⟨num7U _ _, encU_val _ _, hl⟩
theorem numI_here {bs : List UInt8} {lim : Int} {S : Int → Nat → Prop} {p v : Nat} (hv : v < 4294967296) (more : Nat) (hh : Here bs p (numV v more)) (hf : Far lim p (numV v more).length) (hS : S (rest lim (p + (numV v more).length)) v) :
    numI bs lim S p = .ok v (p + (numV v more).length) := by
  obtain ⟨h7, h1, -, h5⟩ := numV_is hv more
  exact numI_mk h7 h5 h1 hv hh hf hS
theorem cnt_self {s : Int × Int} (hs : OkS s) {lim : Int} {q n : Nat} (hn : n < 4294967296) (hf : Far lim q n) (hh : hasS s (rest lim (q + n))) : cntS (1, 1) s (rest lim q) n := by
  obtain ⟨⟨a, b, c, d⟩, -⟩ := hs
  unfold hasS at hh
  by_cases hl : lim = -1
  · have e1 : rest lim q = 1099511627776 := if_pos hl
    have e2 : rest lim (q + n) = 1099511627776 := if_pos hl
    rw [e2] at hh
    unfold cntS
    rw [e1]
    unfold Span.has at hh
    simp only [Bool.and_eq_true, Bool.or_eq_true, decide_eq_true_eq] at hh
    unfold Span.makes Span.has Span.mul Span.most
    simp only [Bool.and_eq_true, Bool.or_eq_true, decide_eq_true_eq, Int.mul_one]
    split <;> split <;> (try split) <;> omega
  · have e1 : rest lim q = lim - q := if_neg hl
    have e2 : rest lim (q + n) = lim - (q + n : Nat) := if_neg hl
    unfold cntS
    rw [e1]
    rw [e2] at hh
    have hf' : (q : Int) + n ≤ lim ∧ lim < q + 1099511627776 := by
      unfold Far at hf
      omega
    refine makes_fit (T := (n : Int)) (by decide) (by simp) (.inr (by simp)) (by omega) (by decide) a (by omega) ?_ (by omega)
    rw [show lim - (q : Int) - (n : Int) = lim - ((q + n : Nat) : Int) by omega]
    exact hh
theorem seqV_here {bs : List UInt8} {lim : Int} : ∀ (l acc : List UInt8) (p : Nat), valsV l = true → Here bs p l → Far lim p l.length → seqO (fun _ => valO bs lim valV) l.length acc p = .ok (acc ++ l) (p + l.length)
  | [], acc, p, _, _, _ => by simp [seqO]
  | x :: l, acc, p, hv, hh, hf => by
    unfold valsV at hv
    rw [List.all_cons, Bool.and_eq_true] at hv
    have h1 : valO bs lim valV p = .ok x (p + 1) := byteO_here hh (Far.ne (k := 0) (hf.less (by simp))) hv.1
    show ((valO bs lim valV p).bind fun a q => seqO (fun _ => valO bs lim valV) l.length (acc ++ [a]) q) = _
    rw [h1]
    simp only [Out.bind]
    rw [seqV_here l (acc ++ [x]) (p + 1) hv.2 hh.tail ((hf.less (k := 1 + l.length) (by simp; omega)).add)]
    congr 1
    · simp
    · simp; omega
theorem valsO_here {bs : List UInt8} {lim : Int} {s : Int × Int} (hs : OkS s) {p : Nat} {l : List UInt8} (more : Nat) (hl : l.length < 4294967296) (hv : valsV l = true) (hh : Here bs p (numV l.length more ++ l)) (hf : Far lim p (numV l.length more ++ l).length)
    (hr : hasS s (rest lim (p + (numV l.length more ++ l).length))) : valsO bs lim s p = .ok l (p + (numV l.length more ++ l).length) := by
  rw [List.length_append] at hf hr ⊢
  unfold valsO
  rw [numI_here hl more hh.left (hf.less (by omega)) (cnt_self hs hl hf.add (by rw [Nat.add_assoc]; exact hr))]
  simp only [Out.bind]
  rw [seqV_here l [] _ hv hh.right hf.add, List.nil_append, Nat.add_assoc]
theorem hasS_and {a s : Int × Int} {r T : Int} (h : hasS s (r - T)) (h1 : a.1 ≤ T) (h2 : T ≤ a.2 ∨ 1099511627776 ≤ a.2) (ha : 0 ≤ a.1) (_ : 0 ≤ s.1) (hr : r ≤ 1099511627776) (hs2 : 0 ≤ s.2) : hasS (andS a s) r := by
  unfold hasS Span.has andS Span.most at *
  simp only [Bool.and_eq_true, Bool.or_eq_true, decide_eq_true_eq] at h ⊢
  split <;> omega
/-- what may stand behind a place where so many bytes were read, with or without a limit -/
theorem hasS_far {a s : Int × Int} {lim : Int} {p T : Nat} (hs : OkS s) (hf : Far lim p T) (h : hasS s (rest lim (p + T))) (h1 : a.1 ≤ T) (h2 : (T : Int) ≤ a.2 ∨ 1099511627776 ≤ a.2) (ha : 0 ≤ a.1) (hT : T ≤ 100000000000) : hasS (andS a s) (rest lim p) := by
  obtain ⟨⟨k1, k2, k3, k4⟩, -⟩ := hs
  by_cases hl : lim = -1
  · have e1 : rest lim p = 1099511627776 := if_pos hl
    have e2 : rest lim (p + T) = 1099511627776 := if_pos hl
    rw [e2] at h
    rw [e1]
    unfold hasS Span.has andS Span.most at *
    simp only [Bool.and_eq_true, Bool.or_eq_true, decide_eq_true_eq] at h ⊢
    split <;> omega
  · have e1 : rest lim p = lim - p := if_neg hl
    have e2 : rest lim (p + T) = lim - (p + T : Nat) := if_neg hl
    rw [e2] at h
    rw [e1]
    unfold Far at hf
    refine hasS_and (T := T) ?_ h1 h2 ha k1 (by omega) (by omega)
    rw [show lim - (p : Int) - (T : Int) = lim - ((p + T : Nat) : Int) by omega]
    exact h
theorem OkS.cons {a s : Int × Int} (h : OkS s) (h1 : 0 ≤ a.1) (h2 : a.1 ≤ a.2) (h3 : a.1 ≤ 100) (h4 : a.2 ≤ 100 ∨ 1099511627776 ≤ a.2) (hs : s.1 ≤ 549755813000 ∧ (s.2 ≤ 549755813000 ∨ 1099511627776 ≤ s.2)) : OkS (andS a s) :=
  h.and h1 h2 (by omega) (by omega)
theorem funcO_here {bs : List UInt8} {lim : Int} {s : Int × Int} (hs : OkS s) (hsz : s.1 ≤ 500000000000 ∧ (s.2 ≤ 500000000000 ∨ 1099511627776 ≤ s.2)) {p : Nat} {ps rs : List UInt8} (more : Nat) (hp : ps.length ≤ 1000000) (hr : rs.length ≤ 1000000) (v1 : valsV ps = true) (v2 : valsV rs = true)
    (hh : Here bs p (fnB ps rs more)) (hf : Far lim p (fnB ps rs more).length) (hb : hasS s (rest lim (p + (fnB ps rs more).length))) : funcO bs lim s p = .ok (ps, rs) (p + (fnB ps rs more).length) := by
  have n1 := numV_len (v := ps.length) (by omega) more
  have n2 := numV_len (v := rs.length) (by omega) more
  obtain ⟨A, hA⟩ : ∃ A, numV ps.length more ++ ps = A := ⟨_, rfl⟩
  obtain ⟨B, hB⟩ : ∃ B, numV rs.length more ++ rs = B := ⟨_, rfl⟩
  have lA : 1 ≤ A.length ∧ A.length ≤ 1000005 := by rw [← hA, List.length_append]; omega
  have lB : 1 ≤ B.length ∧ B.length ≤ 1000005 := by rw [← hB, List.length_append]; omega
  have hE : fnB ps rs more = 96 :: (A ++ B) := by unfold fnB; rw [hA, hB]
  rw [hE] at hh hf hb ⊢
  have hlen : (96 :: (A ++ B)).length = 1 + A.length + B.length := by simp; omega
  rw [hlen] at hf hb ⊢
  have hb2 : hasS s (rest lim (p + 1 + A.length + B.length)) := by rw [show p + 1 + A.length + B.length = p + (1 + A.length + B.length) by omega]; exact hb
  have f1 : Far lim (p + 1) (A.length + B.length) := (hf.less (k := 1 + (A.length + B.length)) (by omega)).add
  have f2 : Far lim (p + 1 + A.length) B.length := f1.add
  have hs1 : OkS (andS (1, 1099511627776) s) := hs.cons (by decide) (by decide) (by decide) (.inr (by decide)) (by omega)
  have hm1 : hasS (andS (1, 1099511627776) s) (rest lim (p + 1 + A.length)) := hasS_far hs f2 hb2 (by simp only; omega) (.inr (by decide)) (by decide) (by omega)
  have hm2 : hasS (andS (1, 1099511627776) (andS (1, 1099511627776) s)) (rest lim (p + 1)) := hasS_far hs1 (f1.less (by omega)) hm1 (by simp only; omega) (.inr (by decide)) (by decide) (by omega)
  unfold funcO
  rw [byteO_here hh (Far.ne (k := 0) (hf.less (by omega))) ⟨rfl, hm2⟩]
  simp only [Out.bind]
  have hhA : Here bs (p + 1) A := hh.tail.left
  have hhB : Here bs (p + 1 + A.length) B := hh.tail.right
  have e1 := valsO_here (lim := lim) hs1 (p := p + 1) (l := ps) more (by omega) v1 (by rw [hA]; exact hhA) (by rw [hA]; exact f1.less (by omega)) (by rw [hA]; exact hm1)
  rw [hA] at e1
  rw [e1]
  simp only
  have e2 := valsO_here (lim := lim) hs (p := p + 1 + A.length) (l := rs) more (by omega) v2 (by rw [hB]; exact hhB) (by rw [hB]; exact f2) (by rw [hB]; exact hb2)
  rw [hB] at e2
  rw [e2]
  simp only
  congr 1
  omega
theorem bitB_is (b : Bool) : (bitB b).toNat < 2 ∧ decide (bitB b = 1) = b := by cases b <;> decide
theorem limitsO_here {bs : List UInt8} {lim : Int} {s : Int × Int} (hs : OkS s) (hsz : s.1 ≤ 500000000000 ∧ (s.2 ≤ 500000000000 ∨ 1099511627776 ≤ s.2)) {p : Nat} {h : Bool} {mn mx : Nat} (more : Nat) (hm : mn < 4294967296) (hx : mx < 4294967296) (h0 : h = false → mx = 0)
    (hh : Here bs p (lmB h mn mx more)) (hf : Far lim p (lmB h mn mx more).length) (hb : hasS s (rest lim (p + (lmB h mn mx more).length))) : limitsO bs lim s p = .ok (h, mn, mx) (p + (lmB h mn mx more).length) := by
  have n1 := numV_len hm more
  have n2 := numV_len hx more
  have hs1 : OkS (andS (1, 5) s) := hs.cons (by decide) (by decide) (by decide) (.inl (by decide)) (by omega)
  unfold limitsO
  cases h with
  | false =>
    have e0 := h0 rfl
    subst e0
    have hE : lmB false mn 0 more = 0 :: numV mn more := by unfold lmB bitB; simp
    rw [hE] at hh hf hb ⊢
    rw [List.length_cons] at hf hb ⊢
    obtain ⟨A, hA⟩ : ∃ A, numV mn more = A := ⟨_, rfl⟩
    have f1 : Far lim (p + 1) (numV mn more).length := (hf.less (k := 1 + (numV mn more).length) (by omega)).add
    have hb2 : hasS s (rest lim (p + 1 + (numV mn more).length)) := by rw [show p + 1 + (numV mn more).length = p + ((numV mn more).length + 1) by omega]; exact hb
    have hm1 : hasS (andS (1, 5) s) (rest lim (p + 1)) := hasS_far hs f1 hb2 (by simp only; omega) (.inl (by simp only; omega)) (by decide) (by omega)
    rw [byteO_here hh (Far.ne (k := 0) (hf.less (by omega))) (.inl ⟨rfl, hm1⟩)]
    simp only [Out.bind]
    rw [if_neg (by decide), numI_here (S := idxS s) hm more hh.tail f1 hb2]
    simp only
    congr 1
    omega
  | true =>
    have hE : lmB true mn mx more = 1 :: (numV mn more ++ numV mx more) := by unfold lmB bitB; simp
    rw [hE] at hh hf hb ⊢
    have hlen : (1 :: (numV mn more ++ numV mx more)).length = 1 + (numV mn more).length + (numV mx more).length := by simp; omega
    rw [hlen] at hf hb ⊢
    have f1 : Far lim (p + 1) ((numV mn more).length + (numV mx more).length) := (hf.less (k := 1 + ((numV mn more).length + (numV mx more).length)) (by omega)).add
    have f2 : Far lim (p + 1 + (numV mn more).length) (numV mx more).length := f1.add
    have hb2 : hasS s (rest lim (p + 1 + (numV mn more).length + (numV mx more).length)) := by rw [show p + 1 + (numV mn more).length + (numV mx more).length = p + (1 + (numV mn more).length + (numV mx more).length) by omega]; exact hb
    have hm1 : hasS (andS (1, 5) s) (rest lim (p + 1 + (numV mn more).length)) := hasS_far hs f2 hb2 (by simp only; omega) (.inl (by simp only; omega)) (by decide) (by omega)
    have hm2 : hasS (andS (1, 5) (andS (1, 5) s)) (rest lim (p + 1)) := hasS_far hs1 (f1.less (by omega)) hm1 (by simp only; omega) (.inl (by simp only; omega)) (by decide) (by omega)
    rw [byteO_here hh (Far.ne (k := 0) (hf.less (by omega))) (.inr ⟨rfl, hm2⟩)]
    simp only [Out.bind]
    rw [if_pos trivial, numI_here (S := idxS (andS (1, 5) s)) hm more hh.tail.left (f1.less (by omega)) hm1]
    simp only
    rw [numI_here (S := idxS s) hx more hh.tail.right f2 hb2]
    simp only
    congr 1
    omega
theorem tableO_here {bs : List UInt8} {lim : Int} {s : Int × Int} (hs : OkS s) (hsz : s.1 ≤ 500000000000 ∧ (s.2 ≤ 500000000000 ∨ 1099511627776 ≤ s.2)) {p : Nat} {e : UInt8} {h : Bool} {mn mx : Nat} (more : Nat) (he : refV e.toNat = true) (hm : mn < 4294967296) (hx : mx < 4294967296) (h0 : h = false → mx = 0)
    (hh : Here bs p (tbB e h mn mx more)) (hf : Far lim p (tbB e h mn mx more).length) (hb : hasS s (rest lim (p + (tbB e h mn mx more).length))) : tableO bs lim s p = .ok (e, h, mn, mx) (p + (tbB e h mn mx more).length) := by
  have hl : 2 ≤ (lmB h mn mx more).length ∧ (lmB h mn mx more).length ≤ 11 := by
    refine ⟨?_, lmB_len hm hx more⟩
    have := numV_len hm more
    unfold lmB
    rw [List.length_cons, List.length_append]
    omega
  have hE : tbB e h mn mx more = e :: lmB h mn mx more := rfl
  rw [hE] at hh hf hb ⊢
  rw [List.length_cons] at hf hb ⊢
  obtain ⟨A, hA⟩ : ∃ A, lmB h mn mx more = A := ⟨_, rfl⟩
  have f1 : Far lim (p + 1) (lmB h mn mx more).length := (hf.less (k := 1 + (lmB h mn mx more).length) (by omega)).add
  have hb2 : hasS s (rest lim (p + 1 + (lmB h mn mx more).length)) := by rw [show p + 1 + (lmB h mn mx more).length = p + ((lmB h mn mx more).length + 1) by omega]; exact hb
  have hm1 : hasS (andS (2, 11) s) (rest lim (p + 1)) := hasS_far hs f1 hb2 (by simp only; omega) (.inl (by simp only; omega)) (by decide) (by omega)
  unfold tableO
  rw [byteO_here hh (Far.ne (k := 0) (hf.less (by omega))) ⟨he, hm1⟩]
  simp only [Out.bind]
  rw [limitsO_here hs hsz more hm hx h0 hh.tail f1 hb2]
  simp only
  congr 1
  omega
theorem globO_here {bs : List UInt8} {lim : Int} {p : Nat} {t : UInt8} {m : Bool} {b : List UInt8} (ht : valV t.toNat = true) (hh : Here bs p (t :: bitB m :: b)) (hf : Far lim p 2) : globO bs lim p = .ok (t, m) (p + 2) := by
  have hb := bitB_is m
  have f1 : Far lim (p + 1) 1 := Far.add (k := 1) (m := 1) hf
  unfold globO
  have e1 : valO bs lim valV p = .ok t (p + 1) := byteO_here hh (Far.ne (k := 0) (hf.less (by omega))) ht
  rw [e1]
  simp only [Out.bind]
  rw [byteO_here hh.tail (Far.ne (k := 0) f1) hb.1]
  simp only
  rw [hb.2]
end Go.Proofs.Ytjagimlmclejeaa
