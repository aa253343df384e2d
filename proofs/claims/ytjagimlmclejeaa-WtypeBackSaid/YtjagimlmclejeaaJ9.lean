/-
  The cursor: a number without a sign.
-/
import Derived.Test.YtjagimlmclejeaaJ6
import Derived.Test.YtjagimlmclejeaaJ7
import Derived.Test.YtjagimlmclejeaaJ8
namespace Go.Proofs.Ytjagimlmclejeaa
open Go.RowKit Go.Proofs.Leb Go.Proofs.Own Go.Proofs.Cur
set_option maxRecDepth 100000
set_option maxHeartbeats 2000000

theorem comes_any (x most : Nat) (r : Int) (G : Nat) (cap : Array Value) (hG : Enters G) (f : Nat → Int → Prop) (w : World) (hx : x < 256) (hmost : most ≤ 10) (r0 : 0 ≤ r) (r1 : r ≤ 1099511627776)
    (hout : ∀ (j : Nat) (r' : Int) w1, New w w1 → j ≤ most → 0 ≤ r' → r' ≤ 1099511627776 → (j = 0 ∨ 128 ≤ x) → Calls Try.prog G (#[.int .i64 j, .int .i64 r'] ++ cap) w1 (Yes (f j r') w1)) :
    Calls Try.prog 80 #[.int .u8 x, .int .i64 most, .int .i64 r, .func (.func G) #[] cap] w (Yes (comes f x most r) w) := by
  have HG := hid hG
  have HO := hid hout
  clear hG hout
  by_cases h128 : x < 128
  · have HC : Hid (comes f x most r ↔ f 0 r) := by show _ ↔ _; unfold comes; rw [if_pos h128]
    have h0 := hid (HO.out 0 r w (Upd.refl _ _) (Nat.zero_le _) r0 r1 (.inl rfl))
    have hd : decide ((x : Int) < 128) = true := by simp; omega
    go_enter Try.func80, Try.ntmps80
    go_wp2_with fail
    refine upon_callv HG.out h0.out ?_
    rintro e w4 ⟨b, rfl, hbF, hn4⟩
    have HBF := hid hbF
    clear hbF
    go_wp2_with fail
    go_ret
    exact ⟨b, rfl, HBF.out.trans HC.out.symm, hn4⟩
  · have HC : Hid (comes f x most r ↔ ∃ j, 1 ≤ j ∧ j ≤ most ∧ (j : Int) ≤ r ∧ f j (behind r j)) := by show _ ↔ _; unfold comes; rw [if_neg h128]
    have hd : ¬ ((x : Int) < 128) := by omega
    obtain ⟨m, hm⟩ : ∃ m : Nat, (if r < (most : Int) then r else (most : Int)) = m := ⟨(if r < (most : Int) then r else (most : Int)).toNat, by split <;> omega⟩
    have hmj : ∀ j : Nat, j ≤ m ↔ j ≤ most ∧ (j : Int) ≤ r := by intro j; split at hm <;> omega
    have HMJ := hid hmj
    have mle : m ≤ most := (hmj m).1 (Nat.le_refl _) |>.1
    clear hmj
    go_enter Try.func80, Try.ntmps80
    go_wp2_with fail
    go_loopw [9, 10] (fun a _ wr => ∃ j : Nat, a = .int .i64 j ∧ 1 ≤ j ∧ j ≤ m + 1 ∧ New w wr ∧ ∀ i, 1 ≤ i → i < j → ¬ f i (behind r i)) (fun a _ _ => m + 1 - (intOf a).toNat)
    case atStart => exact ⟨1, rfl, Nat.le_refl _, by omega, Upd.refl _ _, fun i h1 h2 => absurd h1 (by omega)⟩
    case round =>
      obtain ⟨j, rfl, j1, j2, hw, hno⟩ := hrel
      have HW := hid hw
      have HNO := hid hno
      clear hw hno
      by_cases hj : j ≤ m
      · have hjm := (HMJ.out j).1 hj
        have hjr := hjm.2
        have hb : behind r j = if r < 1099511627776 then r - j else r := rfl
        by_cases hE : r < 1099511627776
        all_goals
          have h1 := hid (HO.out j (behind r j) wr HW.out hjm.1 (by rw [hb]; split <;> omega) (by rw [hb]; split <;> omega) (.inr (by omega)))
          first | rw [if_pos hE] at hb | rw [if_neg hE] at hb
          rw [hb] at h1
          have HB := hid hb
          clear hb hjm
          go_wp2_with fail
          refine upon_callv HG.out h1.out ?_
          rintro e w4 ⟨b, rfl, hbF, hn4⟩
          have HBF := hid hbF
          have HN4 := hid (New.trans HW.out hn4)
          clear hbF hn4
          cases b with
          | true =>
            go_wp2_with fail
            go_ret
            refine ⟨true, rfl, ?_, HN4.out⟩
            simp only [true_iff]
            exact HC.out.2 ⟨j, j1, (HMJ.out j).1 hj |>.1, hjr, by rw [HB.out]; exact HBF.out.1 (by first | rfl | trivial)⟩
          | false =>
            go_wp2_with fail
            go_roundw
            case rel =>
              refine ⟨j + 1, by go_num, by omega, by omega, HN4.out, ?_⟩
              intro i i1 i2
              rcases Nat.lt_or_ge i j with h | h
              · exact HNO.out i i1 h
              · have : i = j := by omega
                subst this
                rw [HB.out]
                exact fun hF => by simpa using HBF.out.2 hF
            case measure => simp [intOf]; omega
      · go_wp2_with fail
        go_ret
        refine ⟨false, rfl, ?_, HW.out⟩
        simp only [Bool.false_eq_true, false_iff]
        intro h
        obtain ⟨i, i1, i2, i3, i4⟩ := HC.out.1 h
        exact HNO.out i i1 (by have := (HMJ.out i).2 ⟨i2, i3⟩; omega) i4
end Go.Proofs.Ytjagimlmclejeaa

namespace Go.Proofs.Ytjagimlmclejeaa
open Go.RowKit Go.Proofs.Leb Go.Proofs.Own Go.Proofs.Cur
set_option maxRecDepth 100000
set_option maxHeartbeats 2000000

/-- the numbers of ranges -/
def inW (W : Int → List (Nat × Nat)) (r : Int) (n : Nat) : Prop := ∃ x ∈ W r, x.1 ≤ n ∧ n ≤ x.2
/-- the ranges are few, of numbers of 64 bits -/
def Few (l : List (Nat × Nat)) : Prop := l.length ≤ 1000000 ∧ ∀ i (h : i < l.length), l[i].1 < 18446744073709551616 ∧ l[i].2 < 18446744073709551616
/-- a function value answers which numbers may stand -/
def Wants (Gw : Nat) (cw : Array Value) (W : Int → List (Nat × Nat)) (r : Int) (w : World) : Prop :=
  Calls Try.prog Gw (#[.int .i64 r] ++ cw) w fun e w' => ∃ v, e = .returned v ∧ RdP w' v (W r) ∧ New w w'

theorem any_fits (W : Int → List (Nat × Nat)) (low k more : Nat) (r : Int) (hl : low < 128 ^ (k + 1)) :
    ((W r).any fun x => Span.look x.1 x.2 low (7 * (k + 1)) more 32) = true ↔ fits (inW W) low (k + 1) more r := by
  have hl' : low < 2 ^ (7 * (k + 1)) := by rw [← pow128]; exact hl
  rw [List.any_eq_true]
  unfold fits inW
  constructor
  · rintro ⟨x, hx, hlook⟩
    rw [Span.look_fit _ _ _ _ _ _ hl'] at hlook
    obtain ⟨v, h1, h2, h3, h4, h5⟩ := hlook
    rw [← pow128] at h4 h5
    exact ⟨v, ⟨x, hx, h1, h2⟩, h3, h4, h5⟩
  · rintro ⟨v, ⟨x, hx, h1, h2⟩, h3, h4, h5⟩
    rw [pow128] at h4 h5
    exact ⟨x, hx, (Span.look_fit _ _ _ _ _ _ hl').mpr ⟨v, h1, h2, h3, h4, h5⟩⟩

theorem Uint11_any (more k low Bw Bl Bk : Nat) (r : Int) (Gw : Nat) (cw : Array Value) (hG : Enters Gw) (W : Int → List (Nat × Nat)) (w : World) (hm : more ≤ 9) (hk : k ≤ 4) (hlow : low < 128 ^ (k + 1))
    (kw : w.cell? ⟨Bw, 0, none⟩ = some (.func (.func Gw) #[] cw)) (kl : w.cell? ⟨Bl, 0, none⟩ = some (.int .u64 low)) (kk : w.cell? ⟨Bk, 0, none⟩ = some (.int .i64 k))
    (hW : ∀ w1, New w w1 → Wants Gw cw W r w1) (hF : Few (W r)) :
    Calls Try.prog 81 #[.int .i64 more, .int .i64 r, .pointer (some ⟨Bw, 0, none⟩), .pointer (some ⟨Bl, 0, none⟩), .pointer (some ⟨Bk, 0, none⟩)] w (Yes (fits (inW W) low (k + 1) more r) w) := by
  have HG := hid hG
  have HW := hid hW
  have KW := hid kw
  have KL := hid kl
  have KK := hid kk
  have HAF := hid (any_fits W low k more r hlow)
  obtain ⟨s, hs⟩ : ∃ s, 7 * (k + 1) = s := ⟨_, rfl⟩
  have hs63 : s ≤ 63 := by omega
  have hlow' : low < 2 ^ s := by rw [← hs, ← pow128]; exact hlow
  have e1 : IntKind.i64.wrap ((k : Int) + 1) = (k : Int) + 1 := IntWalk.i64_in _ (by omega)
  have e2 : IntKind.i64.wrap (7 * ((k : Int) + 1)) = (s : Int) := by rw [IntWalk.i64_in _ (by omega)]; omega
  have E1 := hid e1
  have E2 := hid e2
  rw [hs] at HAF
  have HFT := hid (fun v w (h : RdP w v (W r)) => Fits_any v (W r) low s more 32 w h hF.1 hs63 hm (by decide) hlow' hF.2)
  have hn : New w w.drew := (Upd.refl _ _).drew
  clear hW hG hF kw kl kk hs hs63 hlow hlow' e1 e2 hm
  go_enter Try.func81, Try.ntmps81
  go_wp2_with fail
  have e1 := E1.out
  have e2 := E2.out
  refine wp_region_noPanic ?_
  refine wp_region_held_drew (S := (New w)) (by kernel_rfl) (by first | exact hn | exact (Upd.refl _ _).drew | exact Upd.drew (by assumption)) (fun hn => ?_)
  refine wpAnyH_take (i := 0) (oi := { dst := some 8, op := Op.load 104 (Operand.tmp 2), type := 104, pos := "cursor.go:82", after := #[], guard := none }) (v := ?v1x1) rfl (by kernel_rfl) (by kernel_rfl) (by kernel_rfl) (fun _ _ _ h => h) (Or.inl ⟨by rfl, ?y1x1⟩) hn ?r1x1
  case y1x1 => (intro wS hS; have c := hS.cell KW.out (fun h => h); (try go_simp); (try with_reducible rfl))
  try simp only [Act.put, List.setIfInBounds_toArray, List.set_cons_zero, List.set_cons_succ]
  refine wpAnyH_take (i := 1) (oi := { dst := some 9, op := Op.move (Operand.tmp 1), type := 3, pos := "cursor.go:82", after := #[], guard := none }) (v := ?v1x2) rfl (by kernel_rfl) (by kernel_rfl) (by kernel_rfl) (fun _ _ _ h => h) (Or.inl ⟨by rfl, ?y1x2⟩) hn ?r1x2
  case y1x2 => (intro wS hS; (try go_simp); (try with_reducible rfl))
  try simp only [Act.put, List.setIfInBounds_toArray, List.set_cons_zero, List.set_cons_succ]
  refine wpAnyH_take (i := 3) (oi := { dst := some 11, op := Op.load 78 (Operand.tmp 3), type := 78, pos := "cursor.go:82", after := #[], guard := none }) (v := ?v1x3) rfl (by kernel_rfl) (by kernel_rfl) (by kernel_rfl) (fun _ _ _ h => h) (Or.inl ⟨by rfl, ?y1x3⟩) hn ?r1x3
  case y1x3 => (intro wS hS; have c := hS.cell KL.out (fun h => h); (try go_simp); (try with_reducible rfl))
  try simp only [Act.put, List.setIfInBounds_toArray, List.set_cons_zero, List.set_cons_succ]
  refine wpAnyH_take (i := 4) (oi := { dst := some 12, op := Op.load 3 (Operand.tmp 4), type := 3, pos := "cursor.go:82", after := #[], guard := none }) (v := ?v1x4) rfl (by kernel_rfl) (by kernel_rfl) (by kernel_rfl) (fun _ _ _ h => h) (Or.inl ⟨by rfl, ?y1x4⟩) hn ?r1x4
  case y1x4 => (intro wS hS; have c := hS.cell KK.out (fun h => h); (try go_simp); (try with_reducible rfl))
  try simp only [Act.put, List.setIfInBounds_toArray, List.set_cons_zero, List.set_cons_succ]
  refine wpAnyH_take (i := 5) (oi := { dst := some 13, op := Op.binOp BinOp.add 3 (Operand.tmp 12) (Operand.const (Value.int IntKind.i64 1)) 3, type := 3, pos := "cursor.go:82", after := #[{ on := 4, ground := Ground.data }], guard := none }) (v := ?v1x5) rfl (by kernel_rfl) (by kernel_rfl) (by kernel_rfl) (fun _ _ _ h => h) (Or.inl ⟨by rfl, ?y1x5⟩) hn ?r1x5
  case y1x5 => (intro wS hS; (try go_simp); (try with_reducible rfl))
  try simp only [Act.put, List.setIfInBounds_toArray, List.set_cons_zero, List.set_cons_succ]
  refine wpAnyH_take (i := 6) (oi := { dst := some 14, op := Op.binOp BinOp.mul 3 (Operand.const (Value.int IntKind.i64 7)) (Operand.tmp 13) 3, type := 3, pos := "cursor.go:82", after := #[{ on := 5, ground := Ground.data }], guard := none }) (v := ?v1x6) rfl (by kernel_rfl) (by kernel_rfl) (by kernel_rfl) (fun _ _ _ h => h) (Or.inl ⟨by rfl, ?y1x6⟩) hn ?r1x6
  case y1x6 => (intro wS hS; (try go_simp); (try with_reducible rfl))
  try simp only [Act.put, List.setIfInBounds_toArray, List.set_cons_zero, List.set_cons_succ]
  refine wpAnyH_take (i := 7) (oi := { dst := some 15, op := Op.move (Operand.tmp 0), type := 3, pos := "cursor.go:82", after := #[], guard := none }) (v := ?v1x7) rfl (by kernel_rfl) (by kernel_rfl) (by kernel_rfl) (fun _ _ _ h => h) (Or.inl ⟨by rfl, ?y1x7⟩) hn ?r1x7
  case y1x7 => (intro wS hS; (try go_simp); (try with_reducible rfl))
  try simp only [Act.put, List.setIfInBounds_toArray, List.set_cons_zero, List.set_cons_succ]
  refine wpAnyH_ready (rs := [2]) (by kernel_rfl) (by simp) ?_
  refine AllReadyH.cons (o := { dst := some 10, op := Op.call { callee := Callee.value (Operand.tmp 8), args := #[Operand.tmp 9], argTypes := #[3] }, type := 110, pos := "cursor.go:82", after := #[{ on := 0, ground := Ground.data }, { on := 1, ground := Ground.data }], guard := none }) rfl (fun K hK => ?_) AllReadyH.nil
  go_simp
  refine upon_callv HG.out (HW.out _ hn) ?_
  rintro e wa ⟨v, rfl, hv, hna⟩
  go_wp2_with fail
  have hn := New.trans hn hna
  refine hK.out _ _ (by first | exact hn | exact Upd.alloc hn _) (fun hn => ?_)
  clear hK K
  try simp only [Act.put, List.setIfInBounds_toArray, List.set_cons_zero, List.set_cons_succ]
  refine wpAnyH_ready (rs := [8]) (by kernel_rfl) (by simp) ?_
  refine AllReadyH.cons (o := { dst := some 16, op := Op.call { callee := Callee.value (Operand.func 82), args := #[Operand.tmp 10, Operand.tmp 11, Operand.tmp 14, Operand.tmp 15, Operand.const (Value.int IntKind.i64 32)], argTypes := #[110, 78, 3, 3, 3] }, type := 4, pos := "cursor.go:82", after := #[{ on := 2, ground := Ground.data }, { on := 3, ground := Ground.data }, { on := 6, ground := Ground.data }, { on := 7, ground := Ground.data }, { on := 2, ground := Ground.chain }], guard := none }) rfl (fun K hK => ?_) AllReadyH.nil
  go_simp
  refine (HFT.out _ _ hv).mono ?_
  rintro e wb ⟨rfl, hnb⟩
  go_wp2_with fail
  have hn := New.trans hn hnb
  refine hK.out _ _ (by first | exact hn | exact Upd.alloc hn _) (fun hn => ?_)
  clear hK K
  try simp only [Act.put, List.setIfInBounds_toArray, List.set_cons_zero, List.set_cons_succ]
  refine wpAnyH_take (i := 9) (oi := { dst := some 7, op := Op.assign (Operand.tmp 16), type := 4, pos := "cursor.go:82", after := #[{ on := 8, ground := Ground.data }, { on := 8, ground := Ground.chain }, { on := 0, ground := Ground.phase }, { on := 1, ground := Ground.phase }, { on := 2, ground := Ground.phase }, { on := 3, ground := Ground.phase }, { on := 4, ground := Ground.phase }, { on := 5, ground := Ground.phase }, { on := 6, ground := Ground.phase }, { on := 7, ground := Ground.phase }, { on := 8, ground := Ground.phase }], guard := none }) (v := ?v1x8) rfl (by kernel_rfl) (by kernel_rfl) (by kernel_rfl) (fun _ _ _ h => h) (Or.inl ⟨by rfl, ?y1x8⟩) hn ?r1x8
  case y1x8 => (intro wS hS; (try go_simp); (try with_reducible rfl))
  try simp only [Act.put, List.setIfInBounds_toArray, List.set_cons_zero, List.set_cons_succ]
  refine wpAnyH_done (by kernel_rfl) ?_ _
  refine NoPanic.normal ?_
  go_wp2_with fail
  go_ret
  exact ⟨_, rfl, HAF.out, hn⟩
end Go.Proofs.Ytjagimlmclejeaa

namespace Go.Proofs.Ytjagimlmclejeaa
open Go.RowKit Go.Proofs.Leb Go.Proofs.Own Go.Proofs.Cur
set_option maxRecDepth 100000

theorem between_small (lo hi : Int) : 0 ≤ (Span.between lo hi).1 ∧ (Span.between lo hi).1 ≤ 4294967295 ∧ 0 ≤ (Span.between lo hi).2 ∧ (Span.between lo hi).2 ≤ 4294967295 := by
  unfold Span.between
  by_cases h : min hi 4294967295 < max lo 0
  · rw [if_pos h]; decide
  · rw [if_neg h]; simp only; omega
theorem sizes_small (o1 o2 b1 b2 r : Int) : 0 ≤ (Span.sizes o1 o2 b1 b2 r).1 ∧ (Span.sizes o1 o2 b1 b2 r).1 ≤ 4294967295 ∧ 0 ≤ (Span.sizes o1 o2 b1 b2 r).2 ∧ (Span.sizes o1 o2 b1 b2 r).2 ≤ 4294967295 := by
  unfold Span.sizes
  by_cases h : 1099511627776 ≤ r
  · rw [if_pos h]
    by_cases h2 : 1099511627776 ≤ b2
    · rw [if_pos h2]; exact between_small _ _
    · rw [if_neg h2]; decide
  · rw [if_neg h]; exact between_small _ _
theorem counts_small (i1 i2 b1 b2 r : Int) : 0 ≤ (Span.counts i1 i2 b1 b2 r).1 ∧ (Span.counts i1 i2 b1 b2 r).1 ≤ 4294967295 ∧ 0 ≤ (Span.counts i1 i2 b1 b2 r).2 ∧ (Span.counts i1 i2 b1 b2 r).2 ≤ 4294967295 := by
  unfold Span.counts
  by_cases h : r < b1
  · rw [if_pos h]; decide
  · rw [if_neg h]; exact between_small _ _
theorem few1 (a b : Nat) (ha : a < 18446744073709551616) (hb : b < 18446744073709551616) : Few [(a, b)] := by
  refine ⟨by simp, fun i hi => ?_⟩
  have : i = 0 := by simp at hi; exact hi
  subst this
  exact ⟨ha, hb⟩
end Go.Proofs.Ytjagimlmclejeaa
