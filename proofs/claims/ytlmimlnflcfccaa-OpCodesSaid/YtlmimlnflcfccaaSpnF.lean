/-
  The walk of Fits.
-/
import Derived.Test.YtlmimlnflcfccaaSpnC
import Derived.WalkMore
import Derived.Deep.LoopGhost
namespace Go.Proofs.Ytlmimlnflcfccaa
open Go.RowKit Go.Proofs.Own Go.Proofs.Span
set_option maxRecDepth 100000
set_option maxHeartbeats 2000000

/-- a slice of ranges that can be read -/
def RdP (w : World) (v : Value) (rs : List (Nat × Nat)) : Prop :=
  ∃ a cap, v = .slice a rs.length cap ∧ rs.length ≤ cap ∧ (a = none → cap = 0) ∧ (rs ≠ [] → ∃ b o, a = some ⟨b, o, none⟩ ∧
    ∀ i (h : i < rs.length), w.cell? ⟨b, o + i * 2, none⟩ = some (.int .u64 rs[i].1) ∧ w.cell? ⟨b, o + i * 2 + 1, none⟩ = some (.int .u64 rs[i].2))
theorem RdP.new {w w' : World} {v : Value} {rs : List (Nat × Nat)} (h : RdP w v rs) (hn : New w w') : RdP w' v rs := by
  obtain ⟨a, cap, rfl, h1, h2, h3⟩ := h
  refine ⟨a, cap, rfl, h1, h2, fun hne => ?_⟩
  obtain ⟨b, o, rfl, hc⟩ := h3 hne
  exact ⟨b, o, rfl, fun i hi => ⟨hn.cell (hc i hi).1 (fun h => h), hn.cell (hc i hi).2 (fun h => h)⟩⟩

theorem within_nat (n h : Nat) (w : World) (hn : n ≤ h) :
    Calls Try.prog 70 #[.int .i64 n, .int .i64 h] w fun e w' => e = .returned (.int .i64 n) ∧ w = w' := by
  have hc := within_any n h w
  rw [show min (max (n : Int) 0) h = n by omega] at hc
  exact hc

/-- 'look', its powers named -/
def lookN (lo hi low S R T : Nat) : Bool :=
  decide (lo ≤ min hi T) && decide (low ≤ min hi T) && (decide ((if low < lo then (lo - low - 1) / S + 1 else 0) < R) && decide (low + (if low < lo then (lo - low - 1) / S + 1 else 0) * S ≤ min hi T))

theorem Fits_any (v : Value) (rs : List (Nat × Nat)) (low s l b : Nat) (w : World) (hr : RdP w v rs) (hlen : rs.length ≤ 1000000) (hs : s ≤ 63) (hl : l ≤ 9) (hb : b ≤ 63) (hlow : low < 2 ^ s)
    (hrs : ∀ i (h : i < rs.length), rs[i].1 < 18446744073709551616 ∧ rs[i].2 < 18446744073709551616) :
    Calls Try.prog 43 #[v, .int .u64 low, .int .i64 s, .int .i64 l, .int .i64 b] w fun e w' => e = .returned (.bool (rs.any fun x => Span.look x.1 x.2 low s l b)) ∧ New w w' := by
  obtain ⟨S, hS⟩ : ∃ S, 2 ^ s = S := ⟨_, rfl⟩
  obtain ⟨R, hR⟩ : ∃ R, 2 ^ (7 * l) = R := ⟨_, rfl⟩
  obtain ⟨T, hT⟩ : ∃ T, 2 ^ b = T + 1 := ⟨2 ^ b - 1, by have : 0 < 2 ^ b := Nat.pow_pos (by decide); omega⟩
  have p63 : (2 : Nat) ^ 63 = 9223372036854775808 := by decide
  have S1 : S ≤ 9223372036854775808 := by rw [← hS, ← p63]; exact Nat.pow_le_pow_right (by decide) hs
  have S0 : 0 < S := by rw [← hS]; exact Nat.pow_pos (by decide)
  have R00 : 0 < R := by rw [← hR]; exact Nat.pow_pos (by decide)
  have R1 : R ≤ 9223372036854775808 := by rw [← hR, ← p63]; exact Nat.pow_le_pow_right (by decide) (by omega)
  have T1 : T < 9223372036854775808 := by have : (2 : Nat) ^ b ≤ 2 ^ 63 := Nat.pow_le_pow_right (by decide) hb; omega
  have i1 : (2 : Int) ^ s = S := by rw [← hS]; simp
  have i2 : (2 : Int) ^ (7 * l) = R := by rw [← hR]; simp
  have i3 : (2 : Int) ^ b = T + 1 := by have := congrArg (fun t : Nat => (t : Int)) hT; simpa using this
  have HL : Hid (∀ lo hi, Span.look lo hi low s l b = lookN lo hi low S R T) := by
    intro lo hi
    unfold Span.look lookN
    rw [hS, hR, hT, Nat.add_sub_cancel]
  have HNO : Hid ((∀ j (hj : j < rs.length), lookN rs[j].1 rs[j].2 low S R T = false) → (rs.any fun x => Span.look x.1 x.2 low s l b) = false) := by
    intro h
    rw [List.any_eq_false]
    intro x hx
    obtain ⟨j, hj, rfl⟩ := List.mem_iff_getElem.mp hx
    rw [HL.out, h j hj]
    simp
  rw [hS] at hlow
  clear p63 hS hR hT
  have HR := hid hr
  obtain ⟨a, cap, rfl, hcap, hnil, hcell⟩ := hr
  have HI1 := hid (within_nat s 63 · hs)
  have HI2 := hid (within_nat l 9 · hl)
  have HI3 := hid (within_nat b 63 · hb)
  have HA := hid hcell
  clear hcell
  go_enter Try.func43, Try.ntmps43
  go_wp2_with fail
  go_step3
  go_wp2_with fail
  refine (HI1.out _).mono ?_
  rintro e w' ⟨rfl, rfl⟩
  go_wp2_with fail
  refine (HI2.out _).mono ?_
  rintro e w' ⟨rfl, rfl⟩
  go_wp2_with fail
  refine (HI3.out _).mono ?_
  rintro e w' ⟨rfl, rfl⟩
  go_wp2_with fail
  rw [i2]
  go_step3
  go_wp2_with fail
  go_loopg [31] rs.length (fun k p wr => ∃ i : Nat, k = rs.length - i ∧ p = .int .i64 i ∧ i ≤ rs.length ∧ New w wr ∧ ∀ j (_ : j < i) (hj : j < rs.length), lookN rs[j].1 rs[j].2 low S R T = false)
  case atStart => exact ⟨0, by simp, rfl, Nat.zero_le _, Upd.refl _ _, fun j h => absurd h (Nat.not_lt_zero _)⟩
  case round =>
    obtain ⟨i, rfl, rfl, hi, hw, hbefore⟩ := hrel
    have HBF := hid hbefore
    have HW := hid hw
    clear hbefore hw
    by_cases hlt : i < rs.length
    · obtain ⟨bl, of, rfl, hcell⟩ := HA.out (by intro h; subst h; simp at hlt)
      have hc0 := HW.out.cell (hcell i hlt).1 (fun h => h)
      have hc1 := HW.out.cell (hcell i hlt).2 (fun h => h)
      have hbd := hrs i hlt
      have HX := hid (fun (h : lookN rs[i].1 rs[i].2 low S R T = false) => (show ∀ j (_ : j < i + 1) (hj : j < rs.length), lookN rs[j].1 rs[j].2 low S R T = false from fun j h1 h2 => by
        rcases Nat.lt_or_ge j i with h3 | h3
        · exact HBF.out j h3 h2
        · have : j = i := by omega
          subst this
          exact h))
      have HY := hid (fun (h : lookN rs[i].1 rs[i].2 low S R T = true) => (show (rs.any fun x => Span.look x.1 x.2 low s l b) = true from List.any_eq_true.mpr ⟨rs[i], List.getElem_mem _, by rw [HL.out]; exact h⟩))
      clear hcell
      generalize hlo : rs[i].1 = lo at *
      generalize hhi : rs[i].2 = hi' at *
      clear hlo hhi
      obtain ⟨H, hH⟩ : ∃ H, min hi' T = H := ⟨_, rfl⟩
      have H1 : (if T < hi' then (T : Int) else (hi' : Int)) = H := by split <;> omega
      have H2 : H ≤ T := by omega
      have HH := hid hH
      clear hH
      by_cases ca : H < lo
      · have hv : Hid (lookN lo hi' low S R T = false) := by show _ = _; unfold lookN; rw [HH.out, decide_eq_false (by omega : ¬ lo ≤ H)]; rfl
        go_wp2_with fail
        go_roundg (rs.length - (i + 1))
        case measure => omega
        case rel => exact ⟨i + 1, rfl, by go_num, by omega, HW.out.alloc _, HX.out hv.out⟩
      · by_cases cb : H < low
        · have hv : Hid (lookN lo hi' low S R T = false) := by show _ = _; unfold lookN; rw [HH.out, decide_eq_false (by omega : ¬ low ≤ H), Bool.and_false]; rfl
          go_wp2_with fail
          go_roundg (rs.length - (i + 1))
          case measure => omega
          case rel => exact ⟨i + 1, rfl, by go_num, by omega, HW.out.alloc _, HX.out hv.out⟩
        · have hv0 : lookN lo hi' low S R T = (decide ((if low < lo then (lo - low - 1) / S + 1 else 0) < R) && decide (low + (if low < lo then (lo - low - 1) / S + 1 else 0) * S ≤ H)) := by
            unfold lookN; rw [HH.out, decide_eq_true (by omega : lo ≤ H), decide_eq_true (by omega : low ≤ H)]; rfl
          by_cases cc : low < lo
          · rw [if_pos cc] at hv0
            obtain ⟨q, hq⟩ : ∃ q, (lo - low - 1) / S = q := ⟨_, rfl⟩
            have q1 : ((lo : Int) - low - 1) / S = q := by rw [← hq, Int.natCast_ediv]; congr 1; omega
            have q2 : q ≤ lo - low - 1 := by rw [← hq]; exact Nat.div_le_self _ _
            have q3 : q * S ≤ lo - low - 1 := by rw [← hq]; exact Nat.div_mul_le_self _ _
            rw [hq] at hv0
            obtain ⟨m, hm⟩ : ∃ m, (q + 1) * S = m := ⟨_, rfl⟩
            have m1 : ((q : Int) + 1) * S = m := by rw [← hm]; simp
            have m2 : m ≤ lo - low - 1 + S := by rw [← hm, Nat.add_mul]; omega
            rw [hm] at hv0
            clear hq hm
            by_cases cd : q + 1 < R
            · by_cases ce : low + m ≤ H
              · have hv : Hid (lookN lo hi' low S R T = true) := by show _ = _; rw [hv0, decide_eq_true cd, decide_eq_true ce]; rfl
                clear hv0
                have cd' : (q : Int) + 1 < R := by omega
                have ce' : (low : Int) + m ≤ H := by omega
                go_wp2_with fail
                rw [Exit.noGoto_ret]
                go_ret
                exact ⟨by rw [HY.out hv.out]; rfl, HW.out.alloc _⟩
              · have hv : Hid (lookN lo hi' low S R T = false) := by show _ = _; rw [hv0, decide_eq_false ce, Bool.and_false]
                clear hv0
                have ce' : ¬ (low : Int) + m ≤ H := by omega
                have cd' : (q : Int) + 1 < R := by omega
                go_wp2_with fail
                go_roundg (rs.length - (i + 1))
                case measure => omega
                case rel => exact ⟨i + 1, rfl, by go_num, by omega, HW.out.alloc _, HX.out hv.out⟩
            · have hv : Hid (lookN lo hi' low S R T = false) := by show _ = _; rw [hv0, decide_eq_false cd]; rfl
              clear hv0
              have cd' : ¬ (q : Int) + 1 < R := by omega
              go_wp2_with fail
              go_roundg (rs.length - (i + 1))
              case measure => omega
              case rel => exact ⟨i + 1, rfl, by go_num, by omega, HW.out.alloc _, HX.out hv.out⟩
          · rw [if_neg cc, Nat.zero_mul, Nat.add_zero] at hv0
            have R0 : 0 < R := R00
            have hv : Hid (lookN lo hi' low S R T = true) := by show _ = _; rw [hv0, decide_eq_true R0, decide_eq_true (by omega : low ≤ H)]; rfl
            clear hv0
            go_wp2_with fail
            rw [Exit.noGoto_ret]
            go_ret
            exact ⟨by rw [HY.out hv.out]; rfl, HW.out.alloc _⟩
    · go_wp2_with fail
      rw [Exit.noGoto_ret]
      go_ret
      refine ⟨?_, HW.out⟩
      rw [HNO.out (fun j hj => HBF.out j (by omega) hj)]
      rfl
end Go.Proofs.Ytlmimlnflcfccaa
