/-
  The document's wants: may a number come out whose lower digits are known?
-/
import Derived.Test.YtkfohickmdkplaaJ12
import Derived.Test.YtkfohickmdkplaaJ13
namespace Go.Proofs.Ytkfohickmdkplaa
open Go.RowKit Go.Proofs.Leb Go.Proofs.Own Go.Proofs.Cur
set_option maxRecDepth 100000
set_option maxHeartbeats 4000000

/-- what the walk of Comes is handed of a want -/
structure WantOk (x : Wnt) (pv : Value) (w : World) : Prop where
  fine : x.Fine
  kind : x.kind = 0 ∨ x.kind = 1 ∨ x.kind = 2 ∨ x.kind = 3
  rd : RdK w pv x.picks
  few : x.picks.length ≤ 1000000
  pos : ∀ y ∈ x.picks, 0 ≤ y.2.1
  num : ∀ y ∈ x.picks, y.1 < 18446744073709551616
theorem WantOk.new {x : Wnt} {pv : Value} {w w' : World} (h : WantOk x pv w) (hn : New w w') : WantOk x pv w' := ⟨h.fine, h.kind, h.rd.new hn, h.few, h.pos, h.num⟩
theorem WantOk.may {x : Wnt} {pv : Value} {w : World} (h : WantOk x pv w) (n : Nat) (r : Int) (hr1 : r ≤ 1099511627776) :
    Calls Try.prog 62 #[.agg (valW x pv), .int .u64 n, .int .i64 r] w (Yes (x.may r n) w) := May_any x pv n r w h.fine h.rd h.few h.pos hr1

theorem Comes_neg (x : Wnt) (pv : Value) (low s left r : Int) (w : World) (h : r < 0) :
    Calls Try.prog 63 #[.agg (valW x pv), .int .u64 low, .int .i64 s, .int .i64 left, .int .i64 r] w fun e w' => e = .returned (.bool false) ∧ New w w' := by
  unfold valW
  go_enter Try.func63, Try.ntmps63
  go_wp2_with fail
  go_ret
  exact ⟨rfl, (Upd.refl _ _).alloc _⟩

theorem infoW : (Try.prog.info? 47).map (·.size) = some 10 := by kernel_rfl
theorem comes_fin (x : Wnt) (r : Int) (low k left v0 v1 S Lf : Nat) (hS : 128 ^ k = S) (hL : 128 ^ left = Lf) (hlow : low < S) (hL0 : 0 < Lf) (hle : x.Least r v0) (hv : v0 < 4294967296 → v1 = nextUp v0 S low) :
    (v1 / S / Lf = 0 ∧ x.may r v1) ↔ fits x.may low k left r := by
  have hdiv : ∀ z : Nat, z / Lf = 0 ↔ z < Lf := fun z => by rw [Nat.div_eq_zero_iff]; omega
  rw [hdiv]
  by_cases hb : v0 < 4294967296
  · rw [hv hb, fits_least (by rw [hS]; exact hlow) hle, hS, hL]
  · have hno : ∀ n : Nat, ¬ x.may r n := fun n h => by
      have h1 := hle.2.1 n h
      have h2 := h.2.1
      omega
    constructor
    · rintro ⟨_, h⟩; exact (hno _ h).elim
    · rintro ⟨n, h, _⟩; exact (hno _ h).elim
theorem v1_low {v0 S low m : Nat} (hm : v0 % S = m) (hml : m ≤ low) (hl : low < 268435456) (hb : v0 < 4294967296) : (IntKind.u64.wrap ((v0 : Int) - m + low)).toNat = nextUp v0 S low ∧ (v0 : Int) - m + low = ((IntKind.u64.wrap ((v0 : Int) - m + low)).toNat : Int) := by
  have : m ≤ v0 := by rw [← hm]; exact Nat.mod_le _ _
  have e := IntWalk.u64_in ((v0 : Int) - m + low) (by omega)
  rw [e]
  unfold nextUp
  rw [hm, if_pos hml]
  omega
theorem v1_high {v0 S low m : Nat} (hm : v0 % S = m) (hml : ¬ m ≤ low) (hl : low < 268435456) (hS : S ≤ 268435456) (hb : v0 < 4294967296) : (IntKind.u64.wrap ((v0 : Int) - m + S + low)).toNat = nextUp v0 S low ∧ (v0 : Int) - m + S + low = ((IntKind.u64.wrap ((v0 : Int) - m + S + low)).toNat : Int) := by
  have : m ≤ v0 := by rw [← hm]; exact Nat.mod_le _ _
  have e := IntWalk.u64_in ((v0 : Int) - m + S + low) (by omega)
  rw [e]
  unfold nextUp
  rw [hm, if_neg hml]
  omega

theorem Comes_row (x : Wnt) (pv : Value) (low k left : Nat) (r : Int) (w : World) (hx : WantOk x pv w) (hk : x.kind = 0 ∨ x.kind = 1 ∨ x.kind = 2) (h0 : 0 ≤ r) (hr : r ≤ 1099511627776) (hk4 : k ≤ 4) (hl4 : left ≤ 4) (hlow : low < 128 ^ k) :
    Calls Try.prog 63 #[.agg (valW x pv), .int .u64 low, .int .i64 (7 * k : Nat), .int .i64 left, .int .i64 r] w (Yes (fits x.may low k left r) w) := by
  have HM := hid (fun (n : Nat) w' (hn : New w w') => (hx.new hn).may n r hr)
  have HLE := hid (fun w => least_any x pv r w hk hx.fine h0 hr)
  obtain ⟨s, hs⟩ : ∃ s, 7 * k = s := ⟨_, rfl⟩
  rw [hs]
  obtain ⟨S, hS⟩ : ∃ S, 2 ^ s = S := ⟨_, rfl⟩
  obtain ⟨Lf, hLf⟩ : ∃ Lf, 2 ^ (7 * left) = Lf := ⟨_, rfl⟩
  have hS2 : 128 ^ k = S := by rw [pow128, hs, hS]
  have hL2 : 128 ^ left = Lf := by rw [pow128, hLf]
  rw [hS2] at hlow
  have S0 : 0 < S := by rw [← hS]; exact Nat.pow_pos (by decide)
  have S1 : S ≤ 268435456 := by rw [← hS]; have : (2 : Nat) ^ s ≤ 2 ^ 28 := Nat.pow_le_pow_right (by decide) (by omega); have h2 : (2 : Nat) ^ 28 = 268435456 := by decide
                                omega
  have L0 : 0 < Lf := by rw [← hLf]; exact Nat.pow_pos (by decide)
  have L1 : Lf ≤ 268435456 := by rw [← hLf]; have : (2 : Nat) ^ (7 * left) ≤ 2 ^ 28 := Nat.pow_le_pow_right (by decide) (by omega); have h2 : (2 : Nat) ^ 28 = 268435456 := by decide
                                 omega
  have i1 : (2 : Int) ^ s = S := by rw [← hS]; simp
  have i2 : (2 : Int) ^ (7 * left) = Lf := by rw [← hLf]; simp
  have s28 : s ≤ 28 := by omega
  have k3 : (x.kind == 3) = false := by rw [beq_eq_false_iff_ne]; omega
  have HFL := hid (fun v0 v1 (h : x.Least r v0) hv => comes_fin x r low k left v0 v1 S Lf hS2 hL2 hlow (by rw [← hL2]; exact Nat.pow_pos (by decide)) h hv)
  have I1 := hid i1
  have I2 := hid i2
  clear hx hk hs hS hLf hS2 hL2
  obtain ⟨kind, lo, hi, i1', i2', o1, o2, b1, b2, ps⟩ := x
  unfold valW at HM HLE ⊢
  simp only at k3
  go_enter Try.func63, Try.ntmps63
  go_wp2_with fail
  refine (HLE.out _).mono ?_
  rintro e w1 ⟨v0, rfl, hle, hn1⟩
  have hnb : New w (w.alloc (.cells #[.int .i64 kind, .int .u64 lo, .int .u64 hi, .int .i64 i1', .int .i64 i2', .int .i64 o1, .int .i64 o2, .int .i64 b1, .int .i64 b2, pv] 47)) := (Upd.refl _ _).alloc _
  have HN1 := hid (New.trans hnb hn1)
  have hbx : w1.heap[w.heap.size]? = some (.cells #[.int .i64 kind, .int .u64 lo, .int .u64 hi, .int .i64 i1', .int .i64 i2', .int .i64 o1, .int .i64 o2, .int .i64 b1, .int .i64 b2, pv] 47) := (hn1.block _ (by simp) (fun h => h)).trans (hp_new rfl)
  have HBX := hid hbx
  have HLE2 := hid hle
  have v064 := hle.1
  clear hle hn1 hnb hbx
  obtain ⟨m, hm⟩ : ∃ m, v0 % S = m := ⟨_, rfl⟩
  have em : (v0 : Int) % (S : Int) = (m : Int) := by rw [← hm]; exact (Int.natCast_emod _ _).symm
  have hmS : m < S := by rw [← hm]; exact Nat.mod_lt _ S0
  have hmv : m ≤ v0 := by rw [← hm]; exact Nat.mod_le _ _
  have HMM := hid hm
  clear hm
  by_cases hml : m ≤ low
  · have hml' : (m : Int) ≤ (low : Int) := by omega
    obtain ⟨v1, hv1⟩ : ∃ v1, (IntKind.u64.wrap ((v0 : Int) - m + low)).toNat = v1 := ⟨_, rfl⟩
    have ew : IntKind.u64.wrap ((v0 : Int) - m + low) = (v1 : Int) := by rw [← hv1, IntKind.wrap_u64]; omega
    have ez : v0 < 4294967296 → (v0 : Int) - m + low = (v1 : Int) := fun hb => by rw [← hv1]; exact (v1_low HMM.out hml (by omega) hb).2
    have HF2 := hid (HFL.out v0 v1 HLE2.out (fun hb => by rw [← hv1]; exact (v1_low HMM.out hml (by omega) hb).1))
    obtain ⟨q1, hq1⟩ : ∃ q1, v1 / S = q1 := ⟨_, rfl⟩
    obtain ⟨q2, hq2⟩ : ∃ q2, q1 / Lf = q2 := ⟨_, rfl⟩
    have e1 : (v1 : Int) / (S : Int) = (q1 : Int) := by rw [← hq1]; exact (Int.natCast_ediv _ _).symm
    have e2 : (q1 : Int) / (Lf : Int) = (q2 : Int) := by rw [← hq2]; exact (Int.natCast_ediv _ _).symm
    rw [hq1, hq2] at HF2
    have EZ := hid ez
    clear hv1 hq1 hq2 ez
    by_cases hbig : v0 < 4294967296
    all_goals
      first | (have ez := EZ.out hbig) | skip
      by_cases hq : q2 = 0
      · have hqb : ((q2 : Int) == 0) = true := by rw [beq_iff_eq]; omega
        have hqi : (q2 : Int) = 0 := by omega
        have HQ := hid hq
        clear hq
        go_wp2_with (refine wpList_load_rowG rfl 47 _ rfl w.heap.size rfl 47 #[.int .i64 kind, .int .u64 lo, .int .u64 hi, .int .i64 i1', .int .i64 i2', .int .i64 o1, .int .i64 o2, .int .i64 b1, .int .i64 b2, pv] _ HBX.out Try.underlying47 rfl infoW ?_)
        refine (HM.out v1 _ HN1.out).mono ?_
        rintro e w2 ⟨b, rfl, hb, hn2⟩
        have HB := hid hb
        have HN2 := hid (New.trans HN1.out hn2)
        clear hb hn2
        go_wp2_with fail
        go_ret
        exact ⟨b, rfl, by rw [HB.out, ← HF2.out]; simp [HQ.out], HN2.out⟩
      · have hqb : ((q2 : Int) == 0) = false := by rw [beq_eq_false_iff_ne]; omega
        have HQ := hid hq
        clear hq
        go_wp2_with fail
        go_ret
        exact ⟨false, rfl, by rw [← HF2.out]; simp [HQ.out], HN1.out⟩
  · have hml' : ¬ (m : Int) ≤ (low : Int) := by omega
    obtain ⟨v1, hv1⟩ : ∃ v1, (IntKind.u64.wrap ((v0 : Int) - m + S + low)).toNat = v1 := ⟨_, rfl⟩
    have ew : IntKind.u64.wrap ((v0 : Int) - m + S + low) = (v1 : Int) := by rw [← hv1, IntKind.wrap_u64]; omega
    have ew2 : IntKind.u64.wrap (IntKind.u64.wrap ((v0 : Int) - m + S) + low) = (v1 : Int) := by rw [← ew, IntKind.wrap_u64, IntKind.wrap_u64, IntKind.wrap_u64]; omega
    have ez : v0 < 4294967296 → (v0 : Int) - m + S + low = (v1 : Int) := fun hb => by rw [← hv1]; exact (v1_high HMM.out hml (by omega) S1 hb).2
    have HF2 := hid (HFL.out v0 v1 HLE2.out (fun hb => by rw [← hv1]; exact (v1_high HMM.out hml (by omega) S1 hb).1))
    obtain ⟨q1, hq1⟩ : ∃ q1, v1 / S = q1 := ⟨_, rfl⟩
    obtain ⟨q2, hq2⟩ : ∃ q2, q1 / Lf = q2 := ⟨_, rfl⟩
    have e1 : (v1 : Int) / (S : Int) = (q1 : Int) := by rw [← hq1]; exact (Int.natCast_ediv _ _).symm
    have e2 : (q1 : Int) / (Lf : Int) = (q2 : Int) := by rw [← hq2]; exact (Int.natCast_ediv _ _).symm
    rw [hq1, hq2] at HF2
    have EZ := hid ez
    clear hv1 hq1 hq2 ez
    by_cases hbig : v0 < 4294967296
    all_goals
      first | (have ez := EZ.out hbig) | skip
      by_cases hq : q2 = 0
      · have hqb : ((q2 : Int) == 0) = true := by rw [beq_iff_eq]; omega
        have hqi : (q2 : Int) = 0 := by omega
        have HQ := hid hq
        clear hq
        go_wp2_with (refine wpList_load_rowG rfl 47 _ rfl w.heap.size rfl 47 #[.int .i64 kind, .int .u64 lo, .int .u64 hi, .int .i64 i1', .int .i64 i2', .int .i64 o1, .int .i64 o2, .int .i64 b1, .int .i64 b2, pv] _ HBX.out Try.underlying47 rfl infoW ?_)
        refine (HM.out v1 _ HN1.out).mono ?_
        rintro e w2 ⟨b, rfl, hb, hn2⟩
        have HB := hid hb
        have HN2 := hid (New.trans HN1.out hn2)
        clear hb hn2
        go_wp2_with fail
        go_ret
        exact ⟨b, rfl, by rw [HB.out, ← HF2.out]; simp [HQ.out], HN2.out⟩
      · have hqb : ((q2 : Int) == 0) = false := by rw [beq_eq_false_iff_ne]; omega
        have HQ := hid hq
        clear hq
        go_wp2_with fail
        go_ret
        exact ⟨false, rfl, by rw [← HF2.out]; simp [HQ.out], HN1.out⟩

theorem Comes_picks (x : Wnt) (pv : Value) (low k left : Nat) (r : Int) (w : World) (hx : WantOk x pv w) (hk : x.kind = 3) (h0 : 0 ≤ r) (hr : r ≤ 1099511627776) (hk4 : k ≤ 4) (hl4 : left ≤ 4) :
    Calls Try.prog 63 #[.agg (valW x pv), .int .u64 low, .int .i64 (7 * k : Nat), .int .i64 left, .int .i64 r] w (Yes (fits x.may low k left r) w) := by
  have HM := hid (fun (n : Nat) w' (hn : New w w') => (hx.new hn).may n r hr)
  have HP := hid hx.rd
  have HNB := hid hx.num
  have hfew := hx.few
  obtain ⟨s, hs⟩ : ∃ s, 7 * k = s := ⟨_, rfl⟩
  rw [hs]
  obtain ⟨S, hS⟩ : ∃ S, 2 ^ s = S := ⟨_, rfl⟩
  obtain ⟨Lf, hLf⟩ : ∃ Lf, 2 ^ (7 * left) = Lf := ⟨_, rfl⟩
  have hS2 : 128 ^ k = S := by rw [pow128, hs, hS]
  have hL2 : 128 ^ left = Lf := by rw [pow128, hLf]
  have S0 : 0 < S := by rw [← hS]; exact Nat.pow_pos (by decide)
  have S1 : S ≤ 268435456 := by rw [← hS]; have : (2 : Nat) ^ s ≤ 2 ^ 28 := Nat.pow_le_pow_right (by decide) (by omega); have h2 : (2 : Nat) ^ 28 = 268435456 := by decide
                                omega
  have L0 : 0 < Lf := by rw [← hLf]; exact Nat.pow_pos (by decide)
  have i1 : (2 : Int) ^ s = S := by rw [← hS]; simp
  have i2 : (2 : Int) ^ (7 * left) = Lf := by rw [← hLf]; simp
  have s28 : s ≤ 28 := by omega
  have HFIT : Hid (fits x.may low k left r ↔ ∃ y ∈ x.picks, y.1 % S = low ∧ y.1 / S / Lf = 0 ∧ x.may r y.1) := by
    show _ ↔ _
    have hdiv : ∀ z : Nat, z / Lf = 0 ↔ z < Lf := fun z => by rw [Nat.div_eq_zero_iff]; omega
    unfold fits
    rw [hS2, hL2]
    constructor
    · rintro ⟨n, h1, h2, h3, h4⟩
      have h1' := h1
      unfold Wnt.may at h1'
      rw [if_neg (by omega), if_neg (by omega), if_neg (by omega)] at h1'
      obtain ⟨-, -, y, hy, rfl, -⟩ := h1'
      exact ⟨y, hy, h3, by rw [hdiv]; exact h4, h1⟩
    · rintro ⟨y, hy, h1, h2, h3⟩
      exact ⟨y.1, h3, h3.2.1, h1, by rw [← hdiv]; exact h2⟩
  clear hx hs hS hLf hS2 hL2
  obtain ⟨kind, lo, hi, i1', i2', o1, o2, b1, b2, ps⟩ := x
  simp only at hk
  subst hk
  obtain ⟨ao, cap, rfl⟩ := HP.out.shape
  unfold valW at HM ⊢
  simp only at *
  go_enter Try.func63, Try.ntmps63
  go_wp2_with fail
  have hn1 : New w (w.alloc (.cells #[.int .i64 3, .int .u64 lo, .int .u64 hi, .int .i64 i1', .int .i64 i2', .int .i64 o1, .int .i64 o2, .int .i64 b1, .int .i64 b2, .slice ao ps.length cap] 47)) := (Upd.refl _ _).alloc _
  have hbx : (w.alloc (.cells #[.int .i64 3, .int .u64 lo, .int .u64 hi, .int .i64 i1', .int .i64 i2', .int .i64 o1, .int .i64 o2, .int .i64 b1, .int .i64 b2, .slice ao ps.length cap] 47)).heap[w.heap.size]? = some (.cells #[.int .i64 3, .int .u64 lo, .int .u64 hi, .int .i64 i1', .int .i64 i2', .int .i64 o1, .int .i64 o2, .int .i64 b1, .int .i64 b2, .slice ao ps.length cap] 47) := hp_new rfl
  have hsz : w.heap.size < (w.alloc (.cells #[.int .i64 3, .int .u64 lo, .int .u64 hi, .int .i64 i1', .int .i64 i2', .int .i64 o1, .int .i64 o2, .int .i64 b1, .int .i64 b2, .slice ao ps.length cap] 47)).heap.size := by simp
  have c9 : (w.alloc (.cells #[.int .i64 3, .int .u64 lo, .int .u64 hi, .int .i64 i1', .int .i64 i2', .int .i64 o1, .int .i64 o2, .int .i64 b1, .int .i64 b2, .slice ao ps.length cap] 47)).cell? ⟨w.heap.size, 9, none⟩ = some (.slice ao ps.length cap) := by simp
  generalize w.alloc (.cells #[.int .i64 3, .int .u64 lo, .int .u64 hi, .int .i64 i1', .int .i64 i2', .int .i64 o1, .int .i64 o2, .int .i64 b1, .int .i64 b2, .slice ao ps.length cap] 47) = w1 at *
  have HP1 := hid (HP.out.new hn1)
  have C9 := hid c9
  have HN1 := hid hn1
  have HBX := hid hbx
  clear hn1 c9 hbx
  go_loopw [12, 13] (fun a _ wr => ∃ i : Nat, a = .int .i64 i ∧ i ≤ ps.length ∧ New w1 wr ∧ ∀ j (_ : j < i) (hj : j < ps.length), ¬ (ps[j].1 % S = low ∧ ps[j].1 / S / Lf = 0 ∧ Wnt.may ⟨3, lo, hi, i1', i2', o1, o2, b1, b2, ps⟩ r ps[j].1)) (fun a _ _ => ps.length - (intOf a).toNat)
  case atStart => exact ⟨0, rfl, Nat.zero_le _, Upd.refl _ _, fun j h => absurd h (Nat.not_lt_zero _)⟩
  case round =>
    obtain ⟨i, rfl, hi1, hw, hno⟩ := hrel
    have HW := hid hw
    have HNO := hid hno
    have c9 := hw.cell C9.out (fun h => h)
    have HBX2 : Hid (wr.heap[w.heap.size]? = some (.cells #[.int .i64 3, .int .u64 lo, .int .u64 hi, .int .i64 i1', .int .i64 i2', .int .i64 o1, .int .i64 o2, .int .i64 b1, .int .i64 b2, .slice ao ps.length cap] 47)) := (hw.block _ hsz (fun h => h)).trans HBX.out
    clear hw hno
    by_cases hlt : i < ps.length
    · obtain ⟨_, _, e, _, _, hcell⟩ := HP1.out
      obtain ⟨bl, of, rfl, hcl⟩ := hcell (by intro h; subst h; simp at hlt)
      cases e
      have d0 := HW.out.cell (hcl i hlt).1 (fun h => h)
      have hvb := HNB.out ps[i] (List.getElem_mem _)
      have HNX : Hid (¬ (ps[i].1 % S = low ∧ ps[i].1 / S / Lf = 0 ∧ Wnt.may ⟨3, lo, hi, i1', i2', o1, o2, b1, b2, ps⟩ r ps[i].1) → ∀ j (_ : j < i + 1) (hj : j < ps.length), ¬ (ps[j].1 % S = low ∧ ps[j].1 / S / Lf = 0 ∧ Wnt.may ⟨3, lo, hi, i1', i2', o1, o2, b1, b2, ps⟩ r ps[j].1)) := by
        intro h j h1 h2
        rcases Nat.lt_or_ge j i with h3 | h3
        · exact HNO.out j h3 h2
        · have : j = i := by omega
          subst this
          exact h
      have HYES : Hid ((ps[i].1 % S = low ∧ ps[i].1 / S / Lf = 0 ∧ Wnt.may ⟨3, lo, hi, i1', i2', o1, o2, b1, b2, ps⟩ r ps[i].1) → ∃ y ∈ ps, y.1 % S = low ∧ y.1 / S / Lf = 0 ∧ Wnt.may ⟨3, lo, hi, i1', i2', o1, o2, b1, b2, ps⟩ r y.1) := fun h => ⟨ps[i], List.getElem_mem _, h⟩
      obtain ⟨V, hV⟩ : ∃ V, ps[i].1 = V := ⟨_, rfl⟩
      rw [hV] at d0 HNX HYES hvb
      have HMV := hid (HM.out V)
      obtain ⟨m, hm⟩ : ∃ m, V % S = m := ⟨_, rfl⟩
      obtain ⟨q1, hq1⟩ : ∃ q1, V / S = q1 := ⟨_, rfl⟩
      obtain ⟨q2, hq2⟩ : ∃ q2, q1 / Lf = q2 := ⟨_, rfl⟩
      have em : (V : Int) % (S : Int) = (m : Int) := by rw [← hm]; exact (Int.natCast_emod _ _).symm
      have e1 : (V : Int) / (S : Int) = (q1 : Int) := by rw [← hq1]; exact (Int.natCast_ediv _ _).symm
      have e2 : (q1 : Int) / (Lf : Int) = (q2 : Int) := by rw [← hq2]; exact (Int.natCast_ediv _ _).symm
      rw [hm, hq1, hq2] at HNX HYES
      clear hV hm hq1 hq2 hcl hcell
      by_cases hv : m = low
      · have hmb : ((m : Int) == (low : Int)) = true := by rw [beq_iff_eq]; omega
        have HV := hid hv
        clear hv
        by_cases hq : q2 = 0
        · have hqb : ((q2 : Int) == 0) = true := by rw [beq_iff_eq]; omega
          have hqi : (q2 : Int) = 0 := by omega
          have HQ := hid hq
          clear hq
          go_wp2_with (refine wpList_load_rowG rfl 47 _ rfl w.heap.size rfl 47 #[.int .i64 3, .int .u64 lo, .int .u64 hi, .int .i64 i1', .int .i64 i2', .int .i64 o1, .int .i64 o2, .int .i64 b1, .int .i64 b2, .slice (some ⟨bl, of, none⟩) ps.length cap] _ HBX2.out Try.underlying47 rfl infoW ?_)
          refine (HMV.out _ (New.trans HN1.out HW.out)).mono ?_
          rintro e w3 ⟨b, rfl, hb, hn3⟩
          have HB := hid hb
          have HN3 := hid (New.trans HW.out hn3)
          clear hb hn3
          cases b with
          | true =>
            go_wp2_with fail
            go_ret
            exact ⟨true, rfl, by rw [HFIT.out]; simp only [true_iff]; exact HYES.out ⟨HV.out, HQ.out, HB.out.1 (by first | rfl | trivial)⟩, New.trans HN1.out HN3.out⟩
          | false =>
            go_wp2_with fail
            go_roundw
            case rel => exact ⟨i + 1, by go_num, by omega, HN3.out, HNX.out (fun h => by have := HB.out.2 h.2.2; simp at this)⟩
            case measure => simp [intOf]; omega
        · have hqb : ((q2 : Int) == 0) = false := by rw [beq_eq_false_iff_ne]; omega
          have HQ := hid hq
          clear hq
          go_wp2_with fail
          go_roundw
          case rel => exact ⟨i + 1, by go_num, by omega, HW.out, HNX.out (fun h => HQ.out h.2.1)⟩
          case measure => simp [intOf]; omega
      · have hmb : ((m : Int) == (low : Int)) = false := by rw [beq_eq_false_iff_ne]; omega
        have HV := hid hv
        clear hv
        go_wp2_with fail
        go_roundw
        case rel => exact ⟨i + 1, by go_num, by omega, HW.out, HNX.out (fun h => HV.out h.1)⟩
        case measure => simp [intOf]; omega
    · go_wp2_with fail
      go_ret
      refine ⟨false, rfl, ?_, New.trans HN1.out HW.out⟩
      rw [HFIT.out]
      simp only [Bool.false_eq_true, false_iff]
      rintro ⟨y, hy, hh⟩
      obtain ⟨j, hj, rfl⟩ := List.mem_iff_getElem.mp hy
      exact HNO.out j (by omega) hj hh

/-- may a number come out? whatever the want -/
theorem Comes_any (x : Wnt) (pv : Value) (low k left : Nat) (r : Int) (w : World) (hx : WantOk x pv w) (hr : r ≤ 1099511627776) (hk4 : k ≤ 4) (hl4 : left ≤ 4) (hlow : low < 128 ^ k) :
    Calls Try.prog 63 #[.agg (valW x pv), .int .u64 low, .int .i64 (7 * k : Nat), .int .i64 left, .int .i64 r] w (Yes (fits x.may low k left r) w) := by
  by_cases h0 : r < 0
  · refine (Comes_neg x pv low _ left r w h0).mono ?_
    rintro e w' ⟨rfl, hn⟩
    refine ⟨false, rfl, ?_, hn⟩
    simp only [Bool.false_eq_true, false_iff]
    rintro ⟨n, h, _⟩
    have := h.1
    omega
  · rcases hx.kind with h | h | h | h
    · exact Comes_row x pv low k left r w hx (.inl h) (by omega) hr hk4 hl4 hlow
    · exact Comes_row x pv low k left r w hx (.inr (.inl h)) (by omega) hr hk4 hl4 hlow
    · exact Comes_row x pv low k left r w hx (.inr (.inr h)) (by omega) hr hk4 hl4 hlow
    · exact Comes_picks x pv low k left r w hx h (by omega) hr hk4 hl4
end Go.Proofs.Ytkfohickmdkplaa
