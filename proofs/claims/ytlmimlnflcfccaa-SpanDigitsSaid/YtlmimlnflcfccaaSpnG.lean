/-
  The walk of the document's Fits: it looks one by one.
-/
import Derived.Test.YtlmimlnflcfccaaSpnF
namespace Go.Proofs.Ytlmimlnflcfccaa
open Go.RowKit Go.Proofs.Own Go.Proofs.Span
set_option maxRecDepth 100000
set_option maxHeartbeats 2000000

/-- is a number one that is looked for? -/
def isOne (low S L B v : Nat) : Prop := v < B ∧ v % S = low ∧ v / S < L
theorem isOne_no {low S L B v : Nat} (h : ¬ v < B) : ∀ u, v ≤ u → ¬ isOne low S L B u := fun u hu ⟨h1, _⟩ => h (by omega)

theorem fit_isOne (lo hi low s l b : Nat) : Span.fit lo hi low s l b ↔ ∃ v, lo ≤ v ∧ v ≤ hi ∧ isOne low (2 ^ s) (128 ^ l) (2 ^ b) v :=
  ⟨fun ⟨v, h1, h2, h3, h4, h5⟩ => ⟨v, h1, h2, h3, h4, h5⟩, fun ⟨v, h1, h2, h3, h4, h5⟩ => ⟨v, h1, h2, h3, h4, h5⟩⟩
theorem look_no {lo hi low s l b : Nat} (hlow : low < 2 ^ s) (h : ∀ u, lo ≤ u → u ≤ hi → ¬ isOne low (2 ^ s) (128 ^ l) (2 ^ b) u) : Span.look lo hi low s l b = false := by
  cases hl : Span.look lo hi low s l b with
  | false => rfl
  | true =>
    obtain ⟨v, h1, h2, h3⟩ := (fit_isOne lo hi low s l b).mp ((look_fit lo hi low s l b hlow).mp hl)
    exact absurd h3 (h v h1 h2)
theorem look_yes {lo hi low s l b v : Nat} (hlow : low < 2 ^ s) (h1 : lo ≤ v) (h2 : v ≤ hi) (h : isOne low (2 ^ s) (128 ^ l) (2 ^ b) v) : Span.look lo hi low s l b = true :=
  (look_fit lo hi low s l b hlow).mpr ((fit_isOne lo hi low s l b).mpr ⟨v, h1, h2, h⟩)
theorem div128 (x k : Nat) : x / 128 ^ k / 128 = x / 128 ^ (k + 1) := by rw [Nat.pow_succ, Nat.div_div_eq_div_mul]
theorem mod_back (v S low : Nat) : v % S = low ↔ v / S * S + low = v := by
  have := Nat.div_add_mod v S
  rw [Nat.mul_comm]
  constructor
  · intro h; omega
  · intro h
    have : S * (v / S) + v % S = v := this
    omega

theorem rFits_any (v : Value) (rs : List (Nat × Nat)) (low s l b : Nat) (w : World) (hr : RdP w v rs) (hlen : rs.length ≤ 1000000) (hs : s ≤ 63) (hl : l ≤ 9) (hb : b ≤ 63) (hlow : low < 2 ^ s)
    (hrs : ∀ i (h : i < rs.length), rs[i].1 < 18446744073709551616 ∧ rs[i].2 < 18446744073709551616 ∧ (rs[i].2 < rs[i].1 ∨ rs[i].2 < 18446744073709551615)) :
    Calls Try.prog 44 #[v, .int .u64 low, .int .i64 s, .int .i64 l, .int .i64 b] w fun e w' => e = .returned (.bool (rs.any fun x => Span.look x.1 x.2 low s l b)) ∧ w = w' := by
  have HNO : Hid ((∀ j (hj : j < rs.length), Span.look rs[j].1 rs[j].2 low s l b = false) → (rs.any fun x => Span.look x.1 x.2 low s l b) = false) := by
    intro h
    rw [List.any_eq_false]
    intro x hx
    obtain ⟨j, hj, rfl⟩ := List.mem_iff_getElem.mp hx
    rw [h j hj]
    simp
  have HN := hid (fun lo hi => @look_no lo hi low s l b hlow)
  have HY := hid (fun lo hi v => @look_yes lo hi low s l b v hlow)
  obtain ⟨S, hS⟩ : ∃ S, 2 ^ s = S := ⟨_, rfl⟩
  obtain ⟨B, hB⟩ : ∃ B, 2 ^ b = B := ⟨_, rfl⟩
  have p63 : (2 : Nat) ^ 63 = 9223372036854775808 := by decide
  have S1 : S ≤ 9223372036854775808 := by rw [← hS, ← p63]; exact Nat.pow_le_pow_right (by decide) hs
  have S0 : 0 < S := by rw [← hS]; exact Nat.pow_pos (by decide)
  have B0 : 0 < B := by rw [← hB]; exact Nat.pow_pos (by decide)
  have B1 : B ≤ 9223372036854775808 := by rw [← hB, ← p63]; exact Nat.pow_le_pow_right (by decide) hb
  have B2 : Hid (¬ b < 63 → B = 9223372036854775808) := by
    intro h
    have : b = 63 := by omega
    rw [← hB, this, p63]
  have i1 : (2 : Int) ^ s = S := by rw [← hS]; simp
  have i3 : (2 : Int) ^ b = B := by rw [← hB]; simp
  rw [hS] at hlow HN HY
  rw [hB] at HN HY
  clear p63 hS hB
  obtain ⟨a, cap, rfl, hcap, hnil, hcell⟩ := hr
  have HA := hid hcell
  clear hcell
  go_enter Try.func44, Try.ntmps44
  go_wp2_with fail
  go_loopg [11, 12, 13, 14] rs.length (fun k p _ _ _ wr => ∃ i : Nat, k = rs.length - i ∧ p = .int .i64 i ∧ i ≤ rs.length ∧ w = wr ∧ ∀ j (_ : j < i) (hj : j < rs.length), Span.look rs[j].1 rs[j].2 low s l b = false)
  case atStart => exact ⟨0, by simp, rfl, Nat.zero_le _, rfl, fun j h => absurd h (Nat.not_lt_zero _)⟩
  case round =>
    obtain ⟨i, rfl, rfl, hi, rfl, hbefore⟩ := hrel
    have HBF := hid hbefore
    clear hbefore
    by_cases hlt : i < rs.length
    · obtain ⟨bl, of, rfl, hcell⟩ := HA.out (by intro h; subst h; simp at hlt)
      have hc0 := (hcell i hlt).1
      have hc1 := (hcell i hlt).2
      have hbd := hrs i hlt
      have HX := hid (fun (h : Span.look rs[i].1 rs[i].2 low s l b = false) => (show ∀ j (_ : j < i + 1) (hj : j < rs.length), Span.look rs[j].1 rs[j].2 low s l b = false from fun j h1 h2 => by
        rcases Nat.lt_or_ge j i with h3 | h3
        · exact HBF.out j h3 h2
        · have : j = i := by omega
          subst this
          exact h))
      have HT := hid (fun (h : Span.look rs[i].1 rs[i].2 low s l b = true) => (show (rs.any fun x => Span.look x.1 x.2 low s l b) = true from List.any_eq_true.mpr ⟨rs[i], List.getElem_mem _, h⟩))
      clear hcell
      generalize hlo : rs[i].1 = lo at *
      generalize hhi : rs[i].2 = hi' at *
      clear hlo hhi
      go_wp2_with fail
      go_loopg [12, 13, 14] (hi' + 1 - lo) (fun k p _ _ wr => ∃ v : Nat, k = hi' + 1 - v ∧ p = .int .u64 v ∧ lo ≤ v ∧ (v ≤ hi' + 1 ∨ v = lo) ∧ w = wr ∧ ∀ u, lo ≤ u → u < v → ¬ isOne low S (128 ^ l) B u)
      case atStart => exact ⟨lo, rfl, rfl, Nat.le_refl _, .inr rfl, rfl, fun u h1 h2 => by omega⟩
      case round =>
        obtain ⟨v, rfl, rfl, v1, v2, rfl, hno⟩ := hrel
        have HV := hid hno
        clear hno
        by_cases hv : v ≤ hi'
        · have vlt : v < 18446744073709551615 := by omega
          by_cases hvB : v < B
          · have q0 : (v : Int) / 9223372036854775808 = 0 := by omega
            have qB : (v : Int) / B = 0 := Int.ediv_eq_zero_of_lt (by omega) (by omega)
            obtain ⟨q, hq⟩ : ∃ q, v / S = q := ⟨_, rfl⟩
            obtain ⟨m, hm⟩ : ∃ m, q * S = m := ⟨_, rfl⟩
            have d1 : (v : Int) / S = q := by rw [← hq]; simp
            have m1 : (q : Int) * S = m := by rw [← hm]; simp
            have m2 : m ≤ v := by rw [← hm, ← hq]; exact Nat.div_mul_le_self _ _
            have q2 : q ≤ v := by rw [← hq]; exact Nat.div_le_self _ _
            have HMB := hid (mod_back v S low)
            rw [hq, hm] at HMB
            have HQ := hid hq
            clear hq hm
            by_cases hb63 : b < 63
            all_goals
              by_cases he : m + low = v
              · have e1 : ((m : Int) + low != v) = false := bne_eq_false_iff_eq.mpr (by omega)
                go_wp2_with fail
                go_loopg [13, 14] l (fun k p r wr => ∃ j : Nat, k = l - j ∧ j ≤ l ∧ r = .int .i64 j ∧ p = .int .u64 ((q / 128 ^ j : Nat) : Int) ∧ w = wr)
                case atStart => exact ⟨0, rfl, Nat.zero_le _, rfl, by simp, rfl⟩
                case round =>
                  obtain ⟨j, rfl, hj, rfl, rfl, rfl⟩ := hrel
                  by_cases hjl : j < l
                  · have hd := div128 q j
                    obtain ⟨x, hx⟩ : ∃ x, q / 128 ^ j = x := ⟨_, rfl⟩
                    obtain ⟨y, hy⟩ : ∃ y, q / 128 ^ (j + 1) = y := ⟨_, rfl⟩
                    have hxb : x ≤ v := by rw [← hx]; exact Nat.le_trans (Nat.div_le_self _ _) q2
                    rw [hx, hy] at hd
                    rw [hx]
                    have HX2 := hid hx
                    have HY2 := hid hy
                    have HD := hid hd
                    clear hx hy hd
                    go_wp2_with fail
                    go_roundg (l - (j + 1))
                    case measure => omega
                    case rel => exact ⟨j + 1, rfl, by omega, by go_num, by rw [HY2.out, ← HD.out]; simp, rfl⟩
                  · obtain rfl : l = j := by omega
                    obtain ⟨x, hx⟩ : ∃ x, q / 128 ^ l = x := ⟨_, rfl⟩
                    rw [hx]
                    have HX2 := hid hx
                    clear hx
                    by_cases hx0 : x = 0
                    · subst hx0
                      have HI : Hid (isOne low S (128 ^ l) B v) := ⟨hvB, HMB.out.mpr he, by
                        rw [HQ.out]
                        rcases Nat.lt_or_ge q (128 ^ l) with h | h
                        · exact h
                        · have := Nat.div_pos h (Nat.pow_pos (by decide))
                          have := HX2.out
                          omega⟩
                      go_wp2_with fail
                      go_ret
                      exact ⟨by rw [HT.out (HY.out lo hi' v v1 hv HI.out)]; rfl, rfl⟩
                    · have HI : Hid (¬ isOne low S (128 ^ l) B v) := fun ⟨_, _, h3⟩ => by
                        rw [HQ.out] at h3
                        have := Nat.div_eq_of_lt h3
                        rw [HX2.out] at this
                        exact hx0 this
                      have e2 : ((x : Int) == 0) = false := beq_eq_false_iff_ne.mpr (by omega)
                      go_wp2_with fail
                      go_roundg (hi' + 1 - (v + 1))
                      case measure => omega
                      case rel => exact ⟨v + 1, rfl, by go_num, by omega, by omega, rfl, fun u h1 h2 => by
                        rcases Nat.lt_or_ge u v with h | h
                        · exact HV.out u h1 h
                        · obtain rfl : u = v := by omega
                          exact HI.out⟩
              · have e1 : ((m : Int) + low != v) = true := bne_iff_ne.mpr (by omega)
                have HI : Hid (¬ isOne low S (128 ^ l) B v) := fun ⟨_, h2, _⟩ => he (HMB.out.mp h2)
                go_wp2_with fail
                go_roundg (hi' + 1 - (v + 1))
                case measure => omega
                case rel => exact ⟨v + 1, rfl, by go_num, by omega, by omega, rfl, fun u h1 h2 => by
                  rcases Nat.lt_or_ge u v with h | h
                  · exact HV.out u h1 h
                  · obtain rfl : u = v := by omega
                    exact HI.out⟩
          · have HE : Hid (Span.look lo hi' low s l b = false) := HN.out lo hi' fun u h1 h2 => by
              rcases Nat.lt_or_ge u v with h | h
              · exact HV.out u h1 h
              · exact isOne_no hvB u h
            by_cases hb63 : b < 63
            · obtain ⟨q1, hq1⟩ : ∃ q1, v / B = q1 := ⟨_, rfl⟩
              have q2 : (v : Int) / B = q1 := by rw [← hq1]; simp
              have q3 : 1 ≤ q1 := by rw [← hq1]; exact Nat.div_pos (by omega) B0
              have e1 : ((q1 : Int) != 0) = true := bne_iff_ne.mpr (by omega)
              clear hq1
              go_wp2_with fail
              go_roundg (rs.length - (i + 1))
              case measure => omega
              case rel => exact ⟨i + 1, rfl, by go_num, by omega, rfl, HX.out HE.out⟩
            · have hB := B2.out hb63
              have q2 : (v : Int) / 9223372036854775808 = 1 := by omega
              clear hB
              go_wp2_with fail
              go_roundg (rs.length - (i + 1))
              case measure => omega
              case rel => exact ⟨i + 1, rfl, by go_num, by omega, rfl, HX.out HE.out⟩
        · have HE : Hid (Span.look lo hi' low s l b = false) := HN.out lo hi' fun u h1 h2 => HV.out u h1 (by omega)
          go_wp2_with fail
          go_roundg (rs.length - (i + 1))
          case measure => omega
          case rel => exact ⟨i + 1, rfl, by go_num, by omega, rfl, HX.out HE.out⟩
    · go_wp2_with fail
      go_ret
      exact ⟨by rw [HNO.out (fun j hj => HBF.out j (by omega) hj)]; rfl, rfl⟩
end Go.Proofs.Ytlmimlnflcfccaa
