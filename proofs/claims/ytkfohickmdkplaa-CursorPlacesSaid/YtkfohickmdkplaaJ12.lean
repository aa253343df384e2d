/-
  The document's wants: whether a number may stand.
-/
import Derived.Test.YtkfohickmdkplaaJ10
import Derived.Test.YtkfohickmdkplaaJ11
namespace Go.Proofs.Ytkfohickmdkplaa
open Go.RowKit Go.Proofs.Leb Go.Proofs.Own Go.Proofs.Cur
set_option maxRecDepth 100000
set_option maxHeartbeats 4000000

theorem rHasR_any (mn mx r : Int) (w : World) (_ : 0 ≤ mn) :
    Calls Try.prog 50 #[.agg #[.int .i64 mn, .int .i64 mx], .int .i64 r] w (Yes (hasR mn mx r) w) := by
  by_cases h1 : (1099511627776 : Int) ≤ r
  · have HS : Hid (hasR mn mx r ↔ 1099511627776 ≤ mx) := by show _ ↔ _; unfold hasR; rw [if_pos h1]
    go_enter Try.func50, Try.ntmps50
    go_wp2_with fail
    go_ret
    exact ⟨_, rfl, by rw [HS.out]; simp, (Upd.refl _ _).alloc _⟩
  · have HH := hid (fun w => rhas_any mn mx r w)
    by_cases h0 : 0 ≤ r
    · have HS : Hid (hasR mn mx r ↔ Span.has mn mx r = true) := by show _ ↔ _; unfold hasR Span.has; rw [if_neg h1]; simp; omega
      go_enter Try.func50, Try.ntmps50
      go_wp2_with fail
      refine (HH.out _).mono ?_
      rintro e w1 ⟨rfl, rfl⟩
      go_wp2_with fail
      go_ret
      exact ⟨_, rfl, by rw [HS.out], (by repeat (first | exact Upd.refl _ _ | apply Upd.alloc))⟩
    · have HS : Hid (¬ hasR mn mx r) := by show ¬ _; unfold hasR; rw [if_neg h1]; omega
      go_enter Try.func50, Try.ntmps50
      go_wp2_with fail
      go_ret
      exact ⟨false, rfl, by simp; exact HS.out, (Upd.refl _ _).alloc _⟩

/-- a slice of picks that can be read -/
def RdK (w : World) (v : Value) (ps : List (Nat × Int × Int)) : Prop :=
  ∃ a cap, v = .slice a ps.length cap ∧ ps.length ≤ cap ∧ (a = none → cap = 0) ∧ (ps ≠ [] → ∃ b o, a = some ⟨b, o, none⟩ ∧
    ∀ i (h : i < ps.length), w.cell? ⟨b, o + i * 3, none⟩ = some (.int .u64 ps[i].1) ∧ w.cell? ⟨b, o + i * 3 + 1, none⟩ = some (.int .i64 ps[i].2.1) ∧ w.cell? ⟨b, o + i * 3 + 1 + 1, none⟩ = some (.int .i64 ps[i].2.2))
theorem RdK.upd {S : Nat → Prop} {w w' : World} {v : Value} {ps : List (Nat × Int × Int)} (h : RdK w v ps) (hu : Upd S w w') (hv : ps ≠ [] → ∀ k, v.ownBlock = some k → ¬ S k) : RdK w' v ps := by
  obtain ⟨a, cap, rfl, h1, h2, h3⟩ := h
  refine ⟨a, cap, rfl, h1, h2, fun hne => ?_⟩
  obtain ⟨b, o, rfl, hc⟩ := h3 hne
  have hb := hv hne b rfl
  exact ⟨b, o, rfl, fun i hi => ⟨hu.cell (hc i hi).1 hb, hu.cell (hc i hi).2.1 hb, hu.cell (hc i hi).2.2 hb⟩⟩
theorem RdK.new {w w' : World} {v : Value} {ps : List (Nat × Int × Int)} (h : RdK w v ps) (hn : New w w') : RdK w' v ps := h.upd hn (fun _ _ _ h => h)
theorem RdK.shape {w : World} {v : Value} {ps : List (Nat × Int × Int)} (h : RdK w v ps) : ∃ a cap, v = .slice a ps.length cap := by obtain ⟨a, cap, h, -⟩ := h; exact ⟨a, cap, h⟩

/-- a want of the document, by value -/
def valW (x : Wnt) (pv : Value) : Array Value := #[.int .i64 x.kind, .int .u64 x.lo, .int .u64 x.hi, .int .i64 x.i1, .int .i64 x.i2, .int .i64 x.o1, .int .i64 x.o2, .int .i64 x.b1, .int .i64 x.b2, pv]

theorem May_out (x : Wnt) (pv : Value) (n : Nat) (r : Int) (w : World) (h : r < 0 ∨ 4294967296 ≤ n) :
    Calls Try.prog 62 #[.agg (valW x pv), .int .u64 n, .int .i64 r] w (Yes (x.may r n) w) := by
  have HF : Hid (¬ x.may r n) := by show ¬ _; unfold Wnt.may; omega
  unfold valW
  by_cases hr : r < 0
  · go_enter Try.func62, Try.ntmps62
    go_wp2_with fail
    go_ret
    exact ⟨false, rfl, by simp; exact HF.out, (Upd.refl _ _).alloc _⟩
  · have hn : (4294967295 : Int) < n := by omega
    clear h
    go_enter Try.func62, Try.ntmps62
    go_wp2_with fail
    go_ret
    exact ⟨false, rfl, by simp; exact HF.out, (Upd.refl _ _).alloc _⟩

theorem May0 (x : Wnt) (pv : Value) (n : Nat) (r : Int) (w : World) (hk : x.kind = 0) (hf : x.Fine) (hr : 0 ≤ r) (hn : n < 4294967296) :
    Calls Try.prog 62 #[.agg (valW x pv), .int .u64 n, .int .i64 r] w (Yes (x.may r n) w) := by
  have HF : Hid (x.may r n ↔ x.lo ≤ n ∧ n ≤ x.hi ∧ hasR x.b1 x.b2 r) := by show _ ↔ _; unfold Wnt.may; rw [if_pos hk]; simp [hr, hn]
  have hb := hf.beh (.inl hk)
  have HH := hid (fun w => rHasR_any x.b1 x.b2 r w hb.1)
  obtain ⟨kind, lo, hi, i1, i2, o1, o2, b1, b2, ps⟩ := x
  subst hk
  unfold valW
  simp only at *
  have h0 : ¬ r < 0 := by omega
  have h1 : ¬ (4294967295 : Int) < n := by omega
  clear hf hb
  by_cases c1 : lo ≤ n
  · by_cases c2 : n ≤ hi
    · have c1' : (lo : Int) ≤ n := by omega
      have c2' : (n : Int) ≤ hi := by omega
      go_enter Try.func62, Try.ntmps62
      go_wp2_with fail
      refine (HH.out _).mono ?_
      rintro e w1 ⟨b, rfl, hb, hn1⟩
      have HB := hid hb
      have HN := hid hn1
      clear hb hn1
      go_wp2_with fail
      go_ret
      exact ⟨b, rfl, by rw [HF.out, HB.out]; simp [c1, c2], Upd.trans ((Upd.refl _ _).alloc _) HN.out (fun _ _ h => h)⟩
    · have c1' : (lo : Int) ≤ n := by omega
      have c2' : ¬ (n : Int) ≤ hi := by omega
      go_enter Try.func62, Try.ntmps62
      go_wp2_with fail
      go_ret
      exact ⟨false, rfl, by rw [HF.out]; simp; omega, (Upd.refl _ _).alloc _⟩
  · have c1' : ¬ (lo : Int) ≤ n := by omega
    go_enter Try.func62, Try.ntmps62
    go_wp2_with fail
    go_ret
    exact ⟨false, rfl, by rw [HF.out]; simp; omega, (Upd.refl _ _).alloc _⟩

theorem May1 (x : Wnt) (pv : Value) (n : Nat) (r : Int) (w : World) (hk : x.kind = 1) (hf : x.Fine) (hr : 0 ≤ r) (hn : n < 4294967296) :
    Calls Try.prog 62 #[.agg (valW x pv), .int .u64 n, .int .i64 r] w (Yes (x.may r n) w) := by
  have HF : Hid (x.may r n ↔ Span.makes x.i1 x.i2 x.b1 x.b2 r n = true) := by show _ ↔ _; unfold Wnt.may; rw [if_neg (by omega), if_pos hk]; simp [hr, hn]
  have hb := hf.beh (.inr (.inl hk))
  obtain ⟨⟨a1, a2, a3, a4⟩, a5, a6, a7⟩ := hf.item hk
  obtain ⟨d1, d2, d3, d4⟩ := hb
  have hm := hf.i64
  have HM := hid (fun w => makes_any x.i1 x.i2 x.b1 x.b2 r n w a1 (by omega) (by omega) hm.1 d1 d3 (by omega) (by omega) (by omega))
  obtain ⟨kind, lo, hi, i1, i2, o1, o2, b1, b2, ps⟩ := x
  subst hk
  unfold valW
  simp only at *
  have h0 : ¬ r < 0 := by omega
  have h1 : ¬ (4294967295 : Int) < n := by omega
  clear hf a1 a2 a3 a4 a5 a6 a7 d1 d2 d3 d4 hm
  go_enter Try.func62, Try.ntmps62
  go_wp2_with fail
  refine (HM.out _).mono ?_
  rintro e w1 ⟨rfl, hn1⟩
  have HN := hid hn1
  clear hn1
  go_wp2_with fail
  go_ret
  exact ⟨_, rfl, by rw [HF.out], Upd.trans ((Upd.refl _ _).alloc _) HN.out (fun _ _ h => h)⟩

theorem May2 (x : Wnt) (pv : Value) (n : Nat) (r : Int) (w : World) (hk : x.kind = 2) (hr : 0 ≤ r) (hr1 : r ≤ 1099511627776) (hn : n < 4294967296) :
    Calls Try.prog 62 #[.agg (valW x pv), .int .u64 n, .int .i64 r] w (Yes (x.may r n) w) := by
  have HF : Hid (x.may r n ↔ Span.parts x.o1 x.o2 x.b1 x.b2 r n = true) := by show _ ↔ _; unfold Wnt.may; rw [if_neg (by omega), if_neg (by omega), if_pos hk]; simp [hr, hn]
  have HM := hid (fun w => parts_any x.o1 x.o2 x.b1 x.b2 r n w hr hr1 (by omega) (by omega))
  obtain ⟨kind, lo, hi, i1, i2, o1, o2, b1, b2, ps⟩ := x
  subst hk
  unfold valW
  simp only at *
  have h0 : ¬ r < 0 := by omega
  have h1 : ¬ (4294967295 : Int) < n := by omega
  go_enter Try.func62, Try.ntmps62
  go_wp2_with fail
  refine (HM.out _).mono ?_
  rintro e w1 ⟨rfl, hn1⟩
  have HN := hid hn1
  clear hn1
  go_wp2_with fail
  go_ret
  exact ⟨_, rfl, by rw [HF.out], Upd.trans ((Upd.refl _ _).alloc _) HN.out (fun _ _ h => h)⟩

theorem May3 (x : Wnt) (pv : Value) (n : Nat) (r : Int) (w : World) (hk : x.kind ≠ 0 ∧ x.kind ≠ 1 ∧ x.kind ≠ 2) (hp : RdK w pv x.picks) (hpl : x.picks.length ≤ 1000000) (hpb : ∀ y ∈ x.picks, 0 ≤ y.2.1) (hr : 0 ≤ r) (hn : n < 4294967296) :
    Calls Try.prog 62 #[.agg (valW x pv), .int .u64 n, .int .i64 r] w (Yes (x.may r n) w) := by
  have HF : Hid (x.may r n ↔ ∃ y ∈ x.picks, y.1 = n ∧ hasR y.2.1 y.2.2 r) := by show _ ↔ _; unfold Wnt.may; rw [if_neg hk.1, if_neg hk.2.1, if_neg hk.2.2]; simp [hr, hn]
  obtain ⟨kind, lo, hi, i1, i2, o1, o2, b1, b2, ps⟩ := x
  unfold valW
  simp only at *
  have k0 : (kind == 0) = false := by simpa using hk.1
  have k1 : (kind == 1) = false := by simpa using hk.2.1
  have k2 : (kind == 2) = false := by simpa using hk.2.2
  have h0 : ¬ r < 0 := by omega
  have h1 : ¬ (4294967295 : Int) < n := by omega
  have HP := hid hp
  have HPB := hid hpb
  obtain ⟨ao, cap, rfl⟩ := hp.shape
  clear hk hp hpb
  go_enter Try.func62, Try.ntmps62
  go_wp2_with fail
  have hn1 : New w (w.alloc (.cells #[.int .i64 kind, .int .u64 lo, .int .u64 hi, .int .i64 i1, .int .i64 i2, .int .i64 o1, .int .i64 o2, .int .i64 b1, .int .i64 b2, .slice ao ps.length cap] 47)) := (Upd.refl _ _).alloc _
  have c9 : (w.alloc (.cells #[.int .i64 kind, .int .u64 lo, .int .u64 hi, .int .i64 i1, .int .i64 i2, .int .i64 o1, .int .i64 o2, .int .i64 b1, .int .i64 b2, .slice ao ps.length cap] 47)).cell? ⟨w.heap.size, 9, none⟩ = some (.slice ao ps.length cap) := by simp
  generalize w.alloc (.cells #[.int .i64 kind, .int .u64 lo, .int .u64 hi, .int .i64 i1, .int .i64 i2, .int .i64 o1, .int .i64 o2, .int .i64 b1, .int .i64 b2, .slice ao ps.length cap] 47) = w1 at *
  have HP1 := hid (HP.out.new hn1)
  have C9 := hid c9
  have HN1 := hid hn1
  clear hn1 c9
  go_loopw [7] (fun a wr => ∃ i : Nat, a = .int .i64 i ∧ i ≤ ps.length ∧ New w1 wr ∧ ∀ j (_ : j < i) (hj : j < ps.length), ¬ (ps[j].1 = n ∧ hasR ps[j].2.1 ps[j].2.2 r)) (fun a _ => ps.length - (intOf a).toNat)
  case atStart => exact ⟨0, rfl, Nat.zero_le _, Upd.refl _ _, fun j h => absurd h (Nat.not_lt_zero _)⟩
  case round =>
    obtain ⟨i, rfl, hi1, hw, hno⟩ := hrel
    have HW := hid hw
    have HNO := hid hno
    have c9 := hw.cell C9.out (fun h => h)
    clear hw hno
    by_cases hlt : i < ps.length
    · obtain ⟨_, _, e, _, _, hcell⟩ := HP1.out
      obtain ⟨bl, of, rfl, hcl⟩ := hcell (by intro h; subst h; simp at hlt)
      cases e
      have d0 := HW.out.cell (hcl i hlt).1 (fun h => h)
      have d1 := HW.out.cell (hcl i hlt).2.1 (fun h => h)
      have d2 := HW.out.cell (hcl i hlt).2.2 (fun h => h)
      have hpb := HPB.out ps[i] (List.getElem_mem _)
      have HI := hid (show ps[i] = ps[i] from rfl)
      have HNX : Hid (¬ (ps[i].1 = n ∧ hasR ps[i].2.1 ps[i].2.2 r) → ∀ j (_ : j < i + 1) (hj : j < ps.length), ¬ (ps[j].1 = n ∧ hasR ps[j].2.1 ps[j].2.2 r)) := by
        intro h j h1 h2
        rcases Nat.lt_or_ge j i with h3 | h3
        · exact HNO.out j h3 h2
        · have : j = i := by omega
          subst this
          exact h
      have HYES : Hid ((ps[i].1 = n ∧ hasR ps[i].2.1 ps[i].2.2 r) → ∃ y ∈ ps, y.1 = n ∧ hasR y.2.1 y.2.2 r) := fun h => ⟨ps[i], List.getElem_mem _, h⟩
      have HH := hid (fun w => rHasR_any ps[i].2.1 ps[i].2.2 r w hpb)
      obtain ⟨V, hV⟩ : ∃ V, ps[i].1 = V := ⟨_, rfl⟩
      obtain ⟨y1, hy1⟩ : ∃ y, ps[i].2.1 = y := ⟨_, rfl⟩
      obtain ⟨y2, hy2⟩ : ∃ y, ps[i].2.2 = y := ⟨_, rfl⟩
      rw [hV] at d0 HNX HYES
      rw [hy1] at d1 HNX HYES HH
      rw [hy2] at d2 HNX HYES HH
      clear hV hy1 hy2 hcl hcell hpb HI
      by_cases hv : V = n
      · have hvb : ((V : Int) == (n : Int)) = true := by rw [beq_iff_eq]; omega
        have HV := hid hv
        clear hv
        go_wp2_with fail
        refine (HH.out _).mono ?_
        rintro e w3 ⟨b, rfl, hb, hn3⟩
        have HB := hid hb
        have HN3 := hid (New.trans HW.out hn3)
        clear hb hn3
        cases b with
        | true =>
          go_wp2_with fail
          go_ret
          exact ⟨true, rfl, by rw [HF.out]; simp only [true_iff]; exact HYES.out ⟨HV.out, HB.out.1 (by first | rfl | trivial)⟩, New.trans HN1.out HN3.out⟩
        | false =>
          go_wp2_with fail
          go_roundw
          case rel => exact ⟨i + 1, by go_num, by omega, HN3.out, HNX.out (fun h => by have := HB.out.2 h.2; simp at this)⟩
          case measure => simp [intOf]; omega
      · have hvb : ((V : Int) == (n : Int)) = false := by rw [beq_eq_false_iff_ne]; omega
        have HV := hid hv
        clear hv
        go_wp2_with fail
        go_roundw
        case rel => exact ⟨i + 1, by go_num, by omega, HW.out, HNX.out (fun h => HV.out h.1)⟩
        case measure => simp [intOf]; omega
    · go_wp2_with fail
      go_ret
      refine ⟨false, rfl, ?_, New.trans HN1.out HW.out⟩
      rw [HF.out]
      simp only [Bool.false_eq_true, false_iff]
      rintro ⟨y, hy, hh⟩
      obtain ⟨j, hj, rfl⟩ := List.mem_iff_getElem.mp hy
      exact HNO.out j (by omega) hj hh

/-- may a number stand? whatever the want -/
theorem May_any (x : Wnt) (pv : Value) (n : Nat) (r : Int) (w : World) (hf : x.Fine) (hp : RdK w pv x.picks) (hpl : x.picks.length ≤ 1000000) (hpb : ∀ y ∈ x.picks, 0 ≤ y.2.1) (hr1 : r ≤ 1099511627776) :
    Calls Try.prog 62 #[.agg (valW x pv), .int .u64 n, .int .i64 r] w (Yes (x.may r n) w) := by
  by_cases h0 : r < 0 ∨ 4294967296 ≤ n
  · exact May_out x pv n r w h0
  · by_cases k0 : x.kind = 0
    · exact May0 x pv n r w k0 hf (by omega) (by omega)
    · by_cases k1 : x.kind = 1
      · exact May1 x pv n r w k1 hf (by omega) (by omega)
      · by_cases k2 : x.kind = 2
        · exact May2 x pv n r w k2 (by omega) hr1 (by omega)
        · exact May3 x pv n r w ⟨k0, k1, k2⟩ hp hpl hpb (by omega) (by omega)
end Go.Proofs.Ytkfohickmdkplaa

namespace Go.Proofs.Ytkfohickmdkplaa
open Go.RowKit Go.Proofs.Leb Go.Proofs.Own Go.Proofs.Cur
set_option maxRecDepth 100000
set_option maxHeartbeats 4000000

theorem least_0 (x : Wnt) (pv : Value) (r : Int) (w : World) (hk : x.kind = 0) (hf : x.Fine) :
    Calls Try.prog 75 #[.agg (valW x pv), .int .i64 r] w fun e w' => ∃ v0 : Nat, e = .returned (.int .u64 v0) ∧ x.Least r v0 ∧ New w w' := by
  have HL := hid (least0 hf hk r)
  obtain ⟨kind, lo, hi, i1, i2, o1, o2, b1, b2, ps⟩ := x
  subst hk
  unfold valW
  go_enter Try.func75, Try.ntmps75
  go_wp2_with fail
  go_ret
  exact ⟨lo, rfl, HL.out, (Upd.refl _ _).alloc _⟩

theorem fills_tm (i2 b2 r : Int) (n : Nat) : fills i2 b2 r n ↔ 1099511627776 ≤ Span.most (tm n i2) b2 ∨ (r < 1099511627776 ∧ r ≤ Span.most (tm n i2) b2) := by
  have e : (if (n : Int) ≤ 0 then 0 else if 1099511627776 ≤ i2 then 1099511627776 else Span.mul n i2) = tm n i2 := by
    unfold tm
    by_cases h : (n : Int) ≤ 0
    · rw [if_pos h, if_pos h]
    · rw [if_neg h, if_neg h]
      by_cases h2 : 1099511627776 ≤ i2
      · rw [if_pos h2, mul_top n i2 (by omega) h2]
      · rw [if_neg h2]
  unfold fills
  rw [e]

theorem least_1 (x : Wnt) (pv : Value) (r : Int) (w : World) (hk : x.kind = 1) (hf : x.Fine) (hr0 : 0 ≤ r) (hr : r ≤ 1099511627776) :
    Calls Try.prog 75 #[.agg (valW x pv), .int .i64 r] w fun e w' => ∃ v0 : Nat, e = .returned (.int .u64 v0) ∧ x.Least r v0 ∧ New w w' := by
  have HL := hid (fun v0 h => least1 (v0 := v0) hf hk hr0 hr h)
  have hb := hf.beh (.inr (.inl hk))
  have hit := hf.item hk
  have hm := hf.i64
  have hb0 : 0 ≤ x.b2 := by obtain ⟨c1, c2, c3, c4⟩ := hb; omega
  have HMONO := hid (fun (m n : Nat) (h : m ≤ n) => fills_mono (r := r) hit hb0 (m := m) (n := n) h)
  obtain ⟨⟨a1, a2, a3, a4⟩, a5, a6, a7⟩ := hit
  obtain ⟨d1, d2, d3, d4⟩ := hb
  have HT := hid (fun (n : Nat) w (hn : n ≤ 4294967295) => rTimes_any x.i1 x.i2 n w a1 (by omega) (by omega) hm.1 (by omega))
  have HA := hid (fun (n : Nat) w => rand_any (tm n x.i1) (tm n x.i2) x.b1 x.b2 w (tm_bd a1).1 (by have := (tm_bd (n := n) a1).2; omega) d1 (by omega) (tm_bd (by omega : 0 ≤ x.i2)).1 hb0)
  have HFT := hid (fun n => fills_tm x.i2 x.b2 r n)
  obtain ⟨kind, lo, hi, i1, i2, o1, o2, b1, b2, ps⟩ := x
  subst hk
  unfold valW
  simp only at *
  clear hf hm a1 a2 a3 a4 a5 a6 a7 d1 d2 d3 d4 hb0
  go_enter Try.func75, Try.ntmps75
  go_wp2_with fail
  have hn1 : New w (w.alloc (.cells #[.int .i64 1, .int .u64 lo, .int .u64 hi, .int .i64 i1, .int .i64 i2, .int .i64 o1, .int .i64 o2, .int .i64 b1, .int .i64 b2, pv] 47)) := (Upd.refl _ _).alloc _
  have c3 : (w.alloc (.cells #[.int .i64 1, .int .u64 lo, .int .u64 hi, .int .i64 i1, .int .i64 i2, .int .i64 o1, .int .i64 o2, .int .i64 b1, .int .i64 b2, pv] 47)).cell? ⟨w.heap.size, 3, none⟩ = some (.int .i64 i1) := by simp
  have c4 : (w.alloc (.cells #[.int .i64 1, .int .u64 lo, .int .u64 hi, .int .i64 i1, .int .i64 i2, .int .i64 o1, .int .i64 o2, .int .i64 b1, .int .i64 b2, pv] 47)).cell? ⟨w.heap.size, 4, none⟩ = some (.int .i64 i2) := by simp
  have c7 : (w.alloc (.cells #[.int .i64 1, .int .u64 lo, .int .u64 hi, .int .i64 i1, .int .i64 i2, .int .i64 o1, .int .i64 o2, .int .i64 b1, .int .i64 b2, pv] 47)).cell? ⟨w.heap.size, 7, none⟩ = some (.int .i64 b1) := by simp
  have c8 : (w.alloc (.cells #[.int .i64 1, .int .u64 lo, .int .u64 hi, .int .i64 i1, .int .i64 i2, .int .i64 o1, .int .i64 o2, .int .i64 b1, .int .i64 b2, pv] 47)).cell? ⟨w.heap.size, 8, none⟩ = some (.int .i64 b2) := by simp
  generalize w.alloc (.cells #[.int .i64 1, .int .u64 lo, .int .u64 hi, .int .i64 i1, .int .i64 i2, .int .i64 o1, .int .i64 o2, .int .i64 b1, .int .i64 b2, pv] 47) = w1 at *
  have C3 := hid c3
  have C4 := hid c4
  have C7 := hid c7
  have C8 := hid c8
  have HN1 := hid hn1
  clear c3 c4 c7 c8 hn1
  go_loopw [5, 6, 7, 8] (fun a b _ _ wr => ∃ l h : Nat, a = .int .u64 l ∧ b = .int .u64 h ∧ l ≤ h ∧ h ≤ 4294967295 ∧ New w1 wr ∧ (∀ n, n < l → ¬ fills i2 b2 r n) ∧ (h = 4294967295 ∨ fills i2 b2 r h)) (fun a b _ _ _ => (intOf b).toNat - (intOf a).toNat)
  case atStart => exact ⟨0, 4294967295, rfl, rfl, by omega, Nat.le_refl _, Upd.refl _ _, fun n h => absurd h (Nat.not_lt_zero _), .inl rfl⟩
  case round =>
    obtain ⟨l, h, rfl, rfl, hlh, hh, hw, hno, hyes⟩ := hrel
    have HW := hid hw
    have HNO := hid hno
    have HYES := hid hyes
    clear hno hyes
    by_cases hlt : l < h
    · obtain ⟨m, hm⟩ : ∃ m, (l + h) / 2 = m := ⟨_, rfl⟩
      have hm1 : l ≤ m := by omega
      have hm2 : m < h := by omega
      have hmi : ((l : Int) + (h : Int)) / 2 = (m : Int) := by omega
      have HTm := hid (fun w => HT.out m w (by omega))
      have HAm := hid (fun w => HA.out m w)
      have HFm := hid (HFT.out m)
      generalize tm (m : Int) i1 + b1 = X at *
      generalize Span.most (tm (m : Int) i2) b2 = Y at *
      generalize tm (m : Int) i1 = T1 at *
      generalize tm (m : Int) i2 = T2 at *
      have HM := hid hm
      clear hm hw
      go_upto_region 8 with fail
      rw [hmi]
      clear hmi
      have hn : New wr wr.drew := (Upd.refl _ _).drew
      go_cut [8] (fun p wx => ∃ g, p = .pointer (some ⟨g, 0, none⟩) ∧ New wr wx ∧ Blk wx g (.int .i64 X) (.int .i64 Y) 44)
      case first =>
        have hw64 : IntKind.i64.wrap (m : Int) = (m : Int) := IntWalk.i64_in _ (by omega)
        refine wp_region_noPanic ?_
        refine wp_region_held_drew (S := (New wr)) (by kernel_rfl) (by first | exact hn | exact (Upd.refl _ _).drew | exact Upd.drew (by assumption)) (fun hn => ?_)
        generalize wr.drew = wd at *
        refine wpAnyH_take (i := 0) (oi := { dst := some 24, op := Op.fieldAddr 47 (Operand.tmp 2) 3, type := 0, pos := "ref.go:122", after := #[], guard := none }) (v := ?v6x1) rfl (by kernel_rfl) (by kernel_rfl) (by kernel_rfl) (fun _ _ _ h => h) (Or.inl ⟨by rfl, ?y6x1⟩) hn ?r6x1
        case y6x1 => (intro wS hS; (try go_simp); (try with_reducible rfl))
        try simp only [Act.put, List.setIfInBounds_toArray, List.set_cons_zero, List.set_cons_succ]
        refine wpAnyH_take (i := 1) (oi := { dst := some 25, op := Op.load 44 (Operand.tmp 24), type := 44, pos := "ref.go:122", after := #[{ on := 0, ground := Ground.data }], guard := none }) (v := ?v6x2) rfl (by kernel_rfl) (by kernel_rfl) (by kernel_rfl) (fun _ _ _ h => h) (Or.inl ⟨by rfl, ?y6x2⟩) hn ?r6x2
        case y6x2 => (intro wS hS; have d3 := (New.trans HW.out hS).cell C3.out (fun h => h); have d4 := (New.trans HW.out hS).cell C4.out (fun h => h); (try go_simp); (try with_reducible rfl))
        try simp only [Act.put, List.setIfInBounds_toArray, List.set_cons_zero, List.set_cons_succ]
        refine wpAnyH_take (i := 2) (oi := { dst := some 26, op := Op.move (Operand.tmp 7), type := 42, pos := "ref.go:122", after := #[], guard := none }) (v := ?v6x3) rfl (by kernel_rfl) (by kernel_rfl) (by kernel_rfl) (fun _ _ _ h => h) (Or.inl ⟨by rfl, ?y6x3⟩) hn ?r6x3
        case y6x3 => (intro wS hS; (try go_simp); (try with_reducible rfl))
        try simp only [Act.put, List.setIfInBounds_toArray, List.set_cons_zero, List.set_cons_succ]
        refine wpAnyH_take (i := 3) (oi := { dst := some 27, op := Op.convert 42 3 (Operand.tmp 26), type := 3, pos := "ref.go:122", after := #[{ on := 2, ground := Ground.data }], guard := none }) (v := ?v6x4) rfl (by kernel_rfl) (by kernel_rfl) (by kernel_rfl) (fun _ _ _ h => h) (Or.inl ⟨by rfl, ?y6x4⟩) hn ?r6x4
        case y6x4 => (intro wS hS; (try go_simp); (try with_reducible rfl))
        try simp only [Act.put, List.setIfInBounds_toArray, List.set_cons_zero, List.set_cons_succ]
        refine wpAnyH_take (i := 5) (oi := { dst := some 29, op := Op.fieldAddr 47 (Operand.tmp 2) 5, type := 0, pos := "ref.go:122", after := #[], guard := none }) (v := ?v6x5) rfl (by kernel_rfl) (by kernel_rfl) (by kernel_rfl) (fun _ _ _ h => h) (Or.inl ⟨by rfl, ?y6x5⟩) hn ?r6x5
        case y6x5 => (intro wS hS; (try go_simp); (try with_reducible rfl))
        try simp only [Act.put, List.setIfInBounds_toArray, List.set_cons_zero, List.set_cons_succ]
        refine wpAnyH_take (i := 6) (oi := { dst := some 30, op := Op.load 44 (Operand.tmp 29), type := 44, pos := "ref.go:122", after := #[{ on := 5, ground := Ground.data }], guard := none }) (v := ?v6x6) rfl (by kernel_rfl) (by kernel_rfl) (by kernel_rfl) (fun _ _ _ h => h) (Or.inl ⟨by rfl, ?y6x6⟩) hn ?r6x6
        case y6x6 => (intro wS hS; have d7 := (New.trans HW.out hS).cell C7.out (fun h => h); have d8 := (New.trans HW.out hS).cell C8.out (fun h => h); (try go_simp); (try with_reducible rfl))
        try simp only [Act.put, List.setIfInBounds_toArray, List.set_cons_zero, List.set_cons_succ]
        refine wpAnyH_ready (rs := [4, 8]) (by kernel_rfl) (by simp) ?_
        refine AllReadyH.cons (o := { dst := some 28, op := Op.call { callee := Callee.value (Operand.func 78), args := #[Operand.tmp 25, Operand.tmp 27], argTypes := #[44, 3] }, type := 44, pos := "ref.go:122", after := #[{ on := 1, ground := Ground.data }, { on := 3, ground := Ground.data }], guard := none }) rfl (fun K hK => ?_) ?_
        · skip
          go_simp
          with_reducible refine (HTm.out _).mono ?_
          rintro e wa ⟨rfl, hna⟩
          go_wp2_with fail
          have hn := New.trans hn hna
          try replace hz8 := Blk.new hz8 hna
          refine hK.out _ _ (by first | exact hn | exact Upd.alloc hn _) (fun hn => ?_)
          clear hK K
          try simp only [Act.put, List.setIfInBounds_toArray, List.set_cons_zero, List.set_cons_succ]
          refine wpAnyH_ready (rs := [7, 8]) (by kernel_rfl) (by simp) ?_
          refine AllReadyH.cons (o := { dst := some 31, op := Op.call { callee := Callee.value (Operand.func 77), args := #[Operand.tmp 28, Operand.tmp 30], argTypes := #[44, 44] }, type := 44, pos := "ref.go:122", after := #[{ on := 4, ground := Ground.data }, { on := 6, ground := Ground.data }, { on := 4, ground := Ground.chain }], guard := none }) rfl (fun K hK => ?_) ?_
          · skip
            go_simp
            with_reducible refine (HAm.out _).mono ?_
            rintro e wa ⟨rfl, hna⟩
            go_wp2_with fail
            have hn := New.trans hn hna
            try replace hz8 := Blk.new hz8 hna
            refine hK.out _ _ (by first | exact hn | exact Upd.alloc hn _) (fun hn => ?_)
            clear hK K
            try simp only [Act.put, List.setIfInBounds_toArray, List.set_cons_zero, List.set_cons_succ]
            refine wpAnyH_ready (rs := [8]) (by kernel_rfl) (by simp) ?_
            refine AllReadyH.cons (o := { dst := some 8, op := Op.alloc 44, type := 0, pos := "ref.go:122", after := #[], guard := none }) rfl (fun K hK => ?_) AllReadyH.nil
            go_simp
            refine absN hn ?_ hn.size
            intro g8 hg8 hf8
            rw [hg8] at hf8 ⊢
            refine allocStep hn ?_
            intro W2 hu hn hz8
            rw [hg8] at hz8
            clear hg8 hu
            refine hK.out _ _ (by first | exact hn | exact Upd.alloc hn _) (fun hn => ?_)
            clear hK K
            try simp only [Act.put, List.setIfInBounds_toArray, List.set_cons_zero, List.set_cons_succ]
            refine wpAnyH_ready (rs := [9]) (by kernel_rfl) (by simp) ?_
            refine AllReadyH.cons (o := { dst := none, op := Op.store 44 (Operand.tmp 8) (Operand.tmp 31), type := 0, pos := "ref.go:122", after := #[{ on := 8, ground := Ground.data }, { on := 7, ground := Ground.data }, { on := 7, ground := Ground.chain }, { on := 0, ground := Ground.phase }, { on := 1, ground := Ground.phase }, { on := 2, ground := Ground.phase }, { on := 3, ground := Ground.phase }, { on := 4, ground := Ground.phase }, { on := 5, ground := Ground.phase }, { on := 6, ground := Ground.phase }, { on := 7, ground := Ground.phase }, { on := 8, ground := Ground.phase }], guard := none }) rfl (fun K hK => ?_) AllReadyH.nil
            have z0 := hz8.c0
            have z1 := hz8.c1
            have f0 := hz8.f 0
            have f1 := hz8.f 1
            go_simp
            refine storeStep hn hz8 hf8 ?_
            clear z0 z1 f0 f1
            intro W2 hn hz8' hO
            clear hO hz8
            have hz8 := hz8'
            refine hK.out _ _ (by first | exact hn | exact Upd.alloc hn _) (fun hn => ?_)
            clear hK K
            try simp only [Act.put, List.setIfInBounds_toArray, List.set_cons_zero, List.set_cons_succ]
            refine wpAnyH_done (by kernel_rfl) ?_ _
            refine NoPanic.normal ?_
            go_wp2_with fail
            go_meet
            exact ⟨g8, rfl, hn, hz8⟩
          refine AllReadyH.cons (o := { dst := some 8, op := Op.alloc 44, type := 0, pos := "ref.go:122", after := #[], guard := none }) rfl (fun K hK => ?_) AllReadyH.nil
          go_simp
          refine absN hn ?_ hn.size
          intro g8 hg8 hf8
          rw [hg8] at hf8 ⊢
          refine allocStep hn ?_
          intro W2 hu hn hz8
          rw [hg8] at hz8
          clear hg8 hu
          refine hK.out _ _ (by first | exact hn | exact Upd.alloc hn _) (fun hn => ?_)
          clear hK K
          try simp only [Act.put, List.setIfInBounds_toArray, List.set_cons_zero, List.set_cons_succ]
          refine wpAnyH_ready (rs := [7]) (by kernel_rfl) (by simp) ?_
          refine AllReadyH.cons (o := { dst := some 31, op := Op.call { callee := Callee.value (Operand.func 77), args := #[Operand.tmp 28, Operand.tmp 30], argTypes := #[44, 44] }, type := 44, pos := "ref.go:122", after := #[{ on := 4, ground := Ground.data }, { on := 6, ground := Ground.data }, { on := 4, ground := Ground.chain }], guard := none }) rfl (fun K hK => ?_) AllReadyH.nil
          go_simp
          with_reducible refine (HAm.out _).mono ?_
          rintro e wa ⟨rfl, hna⟩
          go_wp2_with fail
          have hn := New.trans hn hna
          try replace hz8 := Blk.new hz8 hna
          refine hK.out _ _ (by first | exact hn | exact Upd.alloc hn _) (fun hn => ?_)
          clear hK K
          try simp only [Act.put, List.setIfInBounds_toArray, List.set_cons_zero, List.set_cons_succ]
          refine wpAnyH_ready (rs := [9]) (by kernel_rfl) (by simp) ?_
          refine AllReadyH.cons (o := { dst := none, op := Op.store 44 (Operand.tmp 8) (Operand.tmp 31), type := 0, pos := "ref.go:122", after := #[{ on := 8, ground := Ground.data }, { on := 7, ground := Ground.data }, { on := 7, ground := Ground.chain }, { on := 0, ground := Ground.phase }, { on := 1, ground := Ground.phase }, { on := 2, ground := Ground.phase }, { on := 3, ground := Ground.phase }, { on := 4, ground := Ground.phase }, { on := 5, ground := Ground.phase }, { on := 6, ground := Ground.phase }, { on := 7, ground := Ground.phase }, { on := 8, ground := Ground.phase }], guard := none }) rfl (fun K hK => ?_) AllReadyH.nil
          have z0 := hz8.c0
          have z1 := hz8.c1
          have f0 := hz8.f 0
          have f1 := hz8.f 1
          go_simp
          refine storeStep hn hz8 hf8 ?_
          clear z0 z1 f0 f1
          intro W2 hn hz8' hO
          clear hO hz8
          have hz8 := hz8'
          refine hK.out _ _ (by first | exact hn | exact Upd.alloc hn _) (fun hn => ?_)
          clear hK K
          try simp only [Act.put, List.setIfInBounds_toArray, List.set_cons_zero, List.set_cons_succ]
          refine wpAnyH_done (by kernel_rfl) ?_ _
          refine NoPanic.normal ?_
          go_wp2_with fail
          go_meet
          exact ⟨g8, rfl, hn, hz8⟩
        refine AllReadyH.cons (o := { dst := some 8, op := Op.alloc 44, type := 0, pos := "ref.go:122", after := #[], guard := none }) rfl (fun K hK => ?_) AllReadyH.nil
        go_simp
        refine absN hn ?_ hn.size
        intro g8 hg8 hf8
        rw [hg8] at hf8 ⊢
        refine allocStep hn ?_
        intro W2 hu hn hz8
        rw [hg8] at hz8
        clear hg8 hu
        refine hK.out _ _ (by first | exact hn | exact Upd.alloc hn _) (fun hn => ?_)
        clear hK K
        try simp only [Act.put, List.setIfInBounds_toArray, List.set_cons_zero, List.set_cons_succ]
        refine wpAnyH_ready (rs := [4]) (by kernel_rfl) (by simp) ?_
        refine AllReadyH.cons (o := { dst := some 28, op := Op.call { callee := Callee.value (Operand.func 78), args := #[Operand.tmp 25, Operand.tmp 27], argTypes := #[44, 3] }, type := 44, pos := "ref.go:122", after := #[{ on := 1, ground := Ground.data }, { on := 3, ground := Ground.data }], guard := none }) rfl (fun K hK => ?_) AllReadyH.nil
        go_simp
        with_reducible refine (HTm.out _).mono ?_
        rintro e wa ⟨rfl, hna⟩
        go_wp2_with fail
        have hn := New.trans hn hna
        try replace hz8 := Blk.new hz8 hna
        refine hK.out _ _ (by first | exact hn | exact Upd.alloc hn _) (fun hn => ?_)
        clear hK K
        try simp only [Act.put, List.setIfInBounds_toArray, List.set_cons_zero, List.set_cons_succ]
        refine wpAnyH_ready (rs := [7]) (by kernel_rfl) (by simp) ?_
        refine AllReadyH.cons (o := { dst := some 31, op := Op.call { callee := Callee.value (Operand.func 77), args := #[Operand.tmp 28, Operand.tmp 30], argTypes := #[44, 44] }, type := 44, pos := "ref.go:122", after := #[{ on := 4, ground := Ground.data }, { on := 6, ground := Ground.data }, { on := 4, ground := Ground.chain }], guard := none }) rfl (fun K hK => ?_) AllReadyH.nil
        go_simp
        with_reducible refine (HAm.out _).mono ?_
        rintro e wa ⟨rfl, hna⟩
        go_wp2_with fail
        have hn := New.trans hn hna
        try replace hz8 := Blk.new hz8 hna
        refine hK.out _ _ (by first | exact hn | exact Upd.alloc hn _) (fun hn => ?_)
        clear hK K
        try simp only [Act.put, List.setIfInBounds_toArray, List.set_cons_zero, List.set_cons_succ]
        refine wpAnyH_ready (rs := [9]) (by kernel_rfl) (by simp) ?_
        refine AllReadyH.cons (o := { dst := none, op := Op.store 44 (Operand.tmp 8) (Operand.tmp 31), type := 0, pos := "ref.go:122", after := #[{ on := 8, ground := Ground.data }, { on := 7, ground := Ground.data }, { on := 7, ground := Ground.chain }, { on := 0, ground := Ground.phase }, { on := 1, ground := Ground.phase }, { on := 2, ground := Ground.phase }, { on := 3, ground := Ground.phase }, { on := 4, ground := Ground.phase }, { on := 5, ground := Ground.phase }, { on := 6, ground := Ground.phase }, { on := 7, ground := Ground.phase }, { on := 8, ground := Ground.phase }], guard := none }) rfl (fun K hK => ?_) AllReadyH.nil
        have z0 := hz8.c0
        have z1 := hz8.c1
        have f0 := hz8.f 0
        have f1 := hz8.f 1
        go_simp
        refine storeStep hn hz8 hf8 ?_
        clear z0 z1 f0 f1
        intro W2 hn hz8' hO
        clear hO hz8
        have hz8 := hz8'
        refine hK.out _ _ (by first | exact hn | exact Upd.alloc hn _) (fun hn => ?_)
        clear hK K
        try simp only [Act.put, List.setIfInBounds_toArray, List.set_cons_zero, List.set_cons_succ]
        refine wpAnyH_done (by kernel_rfl) ?_ _
        refine NoPanic.normal ?_
        go_wp2_with fail
        go_meet
        exact ⟨g8, rfl, hn, hz8⟩
      case rest =>
        obtain ⟨g, rfl, hw2, hz⟩ := hcut
        obtain ⟨w2, rfl⟩ : ∃ w2, w2 = wc := ⟨_, rfl⟩
        have HW2 := hid (New.trans HW.out hw2)
        have z1 := hz.c1
        clear hw2 hn
        by_cases y1 : 1099511627776 ≤ Y
        · have HFY : Hid (fills i2 b2 r m) := HFm.out.2 (.inl y1)
          go_wp2_with fail
          go_roundw
          case rel => exact ⟨l, m, rfl, rfl, hm1, by omega, HW2.out, HNO.out, .inr HFY.out⟩
          case measure => simp [intOf]; omega
        · by_cases y2 : r < 1099511627776
          · by_cases y3 : r ≤ Y
            · have HFY : Hid (fills i2 b2 r m) := HFm.out.2 (.inr ⟨y2, y3⟩)
              go_wp2_with fail
              go_roundw
              case rel => exact ⟨l, m, rfl, rfl, hm1, by omega, HW2.out, HNO.out, .inr HFY.out⟩
              case measure => simp [intOf]; omega
            · have HFY : Hid (¬ fills i2 b2 r m) := by show ¬ _; rw [HFm.out]; omega
              go_wp2_with fail
              go_roundw
              case rel => exact ⟨m + 1, h, by go_num, rfl, by omega, hh, HW2.out, fun n hn hfn => HFY.out (HMONO.out n m (by omega) hfn), HYES.out⟩
              case measure => simp [intOf]; omega
          · have HFY : Hid (¬ fills i2 b2 r m) := by show ¬ _; rw [HFm.out]; omega
            go_wp2_with fail
            go_roundw
            case rel => exact ⟨m + 1, h, by go_num, rfl, by omega, hh, HW2.out, fun n hn hfn => HFY.out (HMONO.out n m (by omega) hfn), HYES.out⟩
            case measure => simp [intOf]; omega
    · obtain rfl : l = h := by omega
      go_wp2_with fail
      go_ret
      exact ⟨l, rfl, HL.out l ⟨by omega, HNO.out, HYES.out⟩, New.trans HN1.out HW.out⟩

theorem least_2 (x : Wnt) (pv : Value) (r : Int) (w : World) (hk : x.kind = 2) (hf : x.Fine) (hr0 : 0 ≤ r) (hr : r ≤ 1099511627776) :
    Calls Try.prog 75 #[.agg (valW x pv), .int .i64 r] w fun e w' => ∃ v0 : Nat, e = .returned (.int .u64 v0) ∧ x.Least r v0 ∧ New w w' := by
  have HL := hid (least2_ok hf hk hr0 hr)
  have hb := hf.beh (.inr (.inr hk))
  have ho := hf.own hk
  have hm := hf.i64
  obtain ⟨a1, a2, a3, a4⟩ := ho
  obtain ⟨d1, d2, d3, d4⟩ := hb
  obtain ⟨kind, lo, hi, i1, i2, o1, o2, b1, b2, ps⟩ := x
  subst hk
  unfold valW
  simp only at *
  obtain ⟨v0, hv0⟩ : ∃ v0, least2 ⟨2, lo, hi, i1, i2, o1, o2, b1, b2, ps⟩ r = v0 := ⟨_, rfl⟩
  rw [hv0] at HL
  have hv : (v0 : Int) = if 1099511627776 ≤ b2 ∨ 1099511627776 ≤ r ∨ r - b2 < o1 then o1 else r - b2 := by
    rw [← hv0]
    unfold least2
    simp only
    split <;> omega
  have hb2 : 0 ≤ b2 := by omega
  clear hf hv0
  have hc : (1099511627776 ≤ b2) ∨ (¬ 1099511627776 ≤ b2 ∧ 1099511627776 ≤ r) ∨ (¬ 1099511627776 ≤ b2 ∧ ¬ 1099511627776 ≤ r ∧ r - b2 < o1) ∨ (¬ 1099511627776 ≤ b2 ∧ ¬ 1099511627776 ≤ r ∧ ¬ r - b2 < o1) := by omega
  rcases hc with c | ⟨c, c2⟩ | ⟨c, c2, c3⟩ | ⟨c, c2, c3⟩
  · rw [if_pos (.inl c)] at hv
    have HV := hid hv
    have e1 : IntKind.u64.wrap o1 = o1 := IntWalk.u64_in _ (by omega)
    clear hv
    go_enter Try.func75, Try.ntmps75
    go_wp2_with fail
    go_ret
    exact ⟨v0, by rw [HV.out]; rfl, HL.out, (Upd.refl _ _).alloc _⟩
  · rw [if_pos (.inr (.inl c2))] at hv
    have HV := hid hv
    have e1 : IntKind.u64.wrap o1 = o1 := IntWalk.u64_in _ (by omega)
    clear hv
    go_enter Try.func75, Try.ntmps75
    go_wp2_with fail
    go_ret
    exact ⟨v0, by rw [HV.out]; rfl, HL.out, (Upd.refl _ _).alloc _⟩
  · rw [if_pos (.inr (.inr c3))] at hv
    have HV := hid hv
    have e1 : IntKind.u64.wrap o1 = o1 := IntWalk.u64_in _ (by omega)
    clear hv
    go_enter Try.func75, Try.ntmps75
    go_wp2_with fail
    go_ret
    exact ⟨v0, by rw [HV.out]; rfl, HL.out, (Upd.refl _ _).alloc _⟩
  · rw [if_neg (by omega)] at hv
    have HV := hid hv
    have e1 : IntKind.u64.wrap (r - b2) = r - b2 := IntWalk.u64_in _ (by omega)
    clear hv
    go_enter Try.func75, Try.ntmps75
    go_wp2_with fail
    go_ret
    exact ⟨v0, by rw [HV.out]; rfl, HL.out, (Upd.refl _ _).alloc _⟩

theorem least_any (x : Wnt) (pv : Value) (r : Int) (w : World) (hk : x.kind = 0 ∨ x.kind = 1 ∨ x.kind = 2) (hf : x.Fine) (hr0 : 0 ≤ r) (hr : r ≤ 1099511627776) :
    Calls Try.prog 75 #[.agg (valW x pv), .int .i64 r] w fun e w' => ∃ v0 : Nat, e = .returned (.int .u64 v0) ∧ x.Least r v0 ∧ New w w' := by
  rcases hk with hk | hk | hk
  · exact least_0 x pv r w hk hf
  · exact least_1 x pv r w hk hf hr0 hr
  · exact least_2 x pv r w hk hf hr0 hr
end Go.Proofs.Ytkfohickmdkplaa
