/-
  The walks of package leb: what PutU, PutS put.
-/
import Derived.Test.YtlmimlnflcfccaaByt
import Derived.Test.YtlmimlnflcfccaaShelf
namespace Go.Proofs.Ytlmimlnflcfccaa
open Go.RowKit Go.Proofs.Leb Go.Proofs.Own
set_option maxRecDepth 100000
set_option maxHeartbeats 2000000

theorem putU_any (v : Value) (bs : List UInt8) (x : Nat) (w : World) (hx : x < 18446744073709551616) (hn : bs.length ≤ 100000000) (hown : Bytes w v bs) :
    Calls Try.prog 18 #[v, .int .u64 x] w (Post w v (bs ++ encU x 0)) := by
  go_enter Try.func18, Try.ntmps18
  go_wp2_with fail
  go_loopw [0, 1] (fun b c wr => ∃ (d : List UInt8) (y : Nat), c = .int .u64 y ∧ y < 18446744073709551616 ∧ d ++ encU y 0 = bs ++ encU x 0 ∧ Bytes wr b d ∧ Adds w wr v b)
    (fun _ c _ => (intOf c).toNat)
  case atStart => exact ⟨bs, x, rfl, hx, rfl, hown, Adds.refl _ _⟩
  case round =>
    obtain ⟨d, y, rfl, hy, hd, hb, ha⟩ := hrel
    have hlen : d.length ≤ 100000010 := by
      have h1 := congrArg List.length hd
      have h2 := encU_len_le 10 x (by decide) (Nat.lt_trans hx (by decide))
      simp only [List.length_append] at h1
      omega
    have HD := hid hd
    clear hd
    by_cases hlt : (128 : Int) ≤ y
    · go_wp2_with (at_builtin; refine hold ?_)
      refine appB (.tmp 7) (.tmp 11) (UInt8.ofNat (y % 128 + 128)) hb ?_ (by omega) rfl rfl rfl rfl ?_
      · rw [or128, u8_of _ (by omega)]
      intro v' w1 hb1 ha1
      have ha2 := ha.trans ha1
      clear ha1 hb ha
      go_wp2_with fail
      go_roundw
      case rel =>
        refine ⟨_, y / 128, by go_num, by omega, ?_, hb1, ha2⟩
        rw [← HD.out, encU_more y 0 (by omega), if_neg (by omega)]
        simp
      case measure => simp [intOf]; omega
    · go_wp2_with (at_builtin; refine hold ?_)
      refine appB (.tmp 15) (.tmp 18) (UInt8.ofNat y) hb ?_ (by omega) rfl rfl rfl rfl ?_
      · rw [u8_of _ (by omega)]
      intro v' w1 hb1 ha1
      have ha2 := ha.trans ha1
      clear ha1 hb ha
      go_wp2_with fail
      go_ret
      refine ⟨v', rfl, ?_, ha2⟩
      rw [← HD.out, encU_last y (by omega)]
      exact hb1

theorem putS_any (v : Value) (bs : List UInt8) (x : Int) (w : World) (h1 : -9223372036854775808 ≤ x) (h2 : x ≤ 9223372036854775807) (hn : bs.length ≤ 100000000) (hown : Bytes w v bs) :
    Calls Try.prog 19 #[v, .int .i64 x] w (Post w v (bs ++ encS x 0)) := by
  go_enter Try.func19, Try.ntmps19
  go_wp2_with fail
  go_loopw [0, 1] (fun b c wr => ∃ (d : List UInt8) (y : Int), c = .int .i64 y ∧ -9223372036854775808 ≤ y ∧ y ≤ 9223372036854775807 ∧ d ++ encS y 0 = bs ++ encS x 0 ∧ Bytes wr b d ∧ Adds w wr v b)
    (fun _ c _ => (intOf c).natAbs)
  case atStart => exact ⟨bs, x, rfl, h1, h2, rfl, hown, Adds.refl _ _⟩
  case round =>
    obtain ⟨d, y, rfl, hy1, hy2, hd, hb, ha⟩ := hrel
    have hlen : d.length ≤ 100000010 := by
      have h3 := congrArg List.length hd
      have h4 := encS_len_le 10 x (by decide) (by omega) (by omega)
      simp only [List.length_append] at h3
      omega
    have HD := hid hd
    clear hd
    have hcase : y < -64 ∨ (¬ y < -64 ∧ 63 < y) ∨ (¬ y < -64 ∧ ¬ 63 < y) := by omega
    rcases hcase with hlt | ⟨hge, hgt⟩ | ⟨hge, hle⟩
    · go_wp2_with (at_builtin; refine hold ?_)
      refine appB (.tmp 11) (.tmp 15) (UInt8.ofNat ((y % 128).toNat + 128)) hb ?_ (by omega) rfl rfl rfl rfl ?_
      · rw [or128i, u8_of _ (by omega)]; omega
      intro v' w1 hb1 ha1
      have ha2 := ha.trans ha1
      clear ha1 hb ha
      go_wp2_with fail
      go_roundw
      case rel =>
        refine ⟨_, y / 128, by go_num, by omega, by omega, ?_, hb1, ha2⟩
        rw [← HD.out, encS_more y 0 (by omega), if_neg (by omega)]
        simp
      case measure => simp [intOf]; omega
    · go_wp2_with (at_builtin; refine hold ?_)
      refine appB (.tmp 11) (.tmp 15) (UInt8.ofNat ((y % 128).toNat + 128)) hb ?_ (by omega) rfl rfl rfl rfl ?_
      · rw [or128i, u8_of _ (by omega)]; omega
      intro v' w1 hb1 ha1
      have ha2 := ha.trans ha1
      clear ha1 hb ha
      go_wp2_with fail
      go_roundw
      case rel =>
        refine ⟨_, y / 128, by go_num, by omega, by omega, ?_, hb1, ha2⟩
        rw [← HD.out, encS_more y 0 (by omega), if_neg (by omega)]
        simp
      case measure => simp [intOf]; omega
    · go_wp2_with (at_builtin; refine hold ?_)
      refine appB (.tmp 19) (.tmp 23) (UInt8.ofNat (y % 128).toNat) hb ?_ (by omega) rfl rfl rfl rfl ?_
      · rw [and127i, u8_of _ (by omega)]; omega
      intro v' w1 hb1 ha1
      have ha2 := ha.trans ha1
      clear ha1 hb ha
      go_wp2_with fail
      go_ret
      refine ⟨v', rfl, ?_, ha2⟩
      rw [← HD.out, encS_last y (by omega) (by omega)]
      exact hb1

/-! ### how many bytes -/
/-- the bit length and the count of digits -/
theorem bitLen_low : ∀ b : Fin 128, b.val ≠ 0 → 1 ≤ Lib.bitLen b.val ∧ Lib.bitLen b.val ≤ 7 := by decide +kernel
theorem bitLenAux_le : ∀ (f x : Nat), Lib.bitLenAux f x ≤ f := by
  intro f
  induction f with
  | zero => intro x; simp [Lib.bitLenAux]
  | succ f ih => intro x; simp only [Lib.bitLenAux]; have := ih (x / 2); split <;> omega
theorem bitLen_le (x : Nat) : Lib.bitLen x ≤ 64 := bitLenAux_le 64 x
theorem bitLen_sevens (x : Nat) (hx : x < 18446744073709551616) : max 1 ((Lib.bitLen x + 6) / 7) = (encU x 0).length ∧ (0 < x → 1 ≤ Lib.bitLen x) := by
  induction x using Nat.strongRecOn with
  | _ x ih =>
    by_cases h : x ≤ 127
    · rw [encU_last x h]
      simp only [List.length_cons, List.length_nil]
      by_cases h0 : x = 0
      · subst h0; exact ⟨by decide, fun h => by omega⟩
      · have := bitLen_low ⟨x, by omega⟩ (by simpa using h0)
        simp only at this
        omega
    · have h7 := Lib.bitLen_shift 7 x (by omega) (by omega)
      have e : (2 : Nat) ^ 7 = 128 := rfl
      rw [e] at h7
      obtain ⟨i1, i2⟩ := ih (x / 128) (by omega) (by omega)
      have i3 := i2 (by omega)
      rw [encU_more x 0 (by omega), if_neg h]
      simp only [List.length_cons]
      omega
theorem sizeU_any (x : Nat) (w : World) (hx : x < 18446744073709551616) :
    Calls Try.prog 20 #[.int .u64 x] w fun e w' => e = .returned (.int .i64 (encU x 0).length) ∧ w = w' := by
  have hs := (bitLen_sevens x hx).1
  have hb := bitLen_le x
  have HS : Hid (max (1 : Int) (((Lib.bitLen x : Int) + 6) / 7) = (encU x 0).length) := by
    show max (1 : Int) (((Lib.bitLen x : Int) + 6) / 7) = (encU x 0).length
    omega
  clear hs
  go_enter Try.func20, Try.ntmps20
  go_wp2_with (go_at_call 58; refine (Try.bits_Len64 _ _ (by omega) (by omega)).mono ?_; rintro e w' ⟨rfl, rfl⟩)
  go_ret
  refine ⟨?_, rfl⟩
  show Ending.returned (.int .i64 (max (1 : Int) (((Lib.bitLen x : Int) + 6) / 7))) = _
  rw [HS.out]

theorem bitLen_mid : ∀ b : Fin 128, 64 ≤ b.val → Lib.bitLen b.val = 7 := by decide +kernel
theorem bitLen_small : ∀ b : Fin 64, Lib.bitLen b.val ≤ 6 := by decide +kernel
/-- a number with a sign has a bit more -/
theorem encS_bits : ∀ (n : Nat) (x : Int), x.natAbs ≤ n → -9223372036854775808 ≤ x → x ≤ 9223372036854775807 →
    (encS x 0).length = (Lib.bitLen (if x < 0 then -x - 1 else x).toNat + 7) / 7 := by
  intro n
  induction n with
  | zero =>
    intro x h _ _
    have : x = 0 := by omega
    subst this
    rw [encS_last 0 (by omega) (by omega)]
    rfl
  | succ n ih =>
    intro x h h1 h2
    generalize hv : (if x < 0 then -x - 1 else x).toNat = v
    by_cases hr : -64 ≤ x ∧ x ≤ 63
    · rw [encS_last x hr.1 hr.2]
      have hv64 : v < 64 := by split at hv <;> omega
      have := bitLen_small ⟨v, hv64⟩
      simp only at this
      simp only [List.length_cons, List.length_nil]
      omega
    · rw [encS_more x 0 (by omega), if_neg hr]
      simp only [List.length_cons]
      have i := ih (x / 128) (by omega) (by omega) (by omega)
      have e : (if x / 128 < 0 then -(x / 128) - 1 else x / 128).toNat = v / 128 := by
        split at hv <;> split <;> omega
      rw [e] at i
      rw [i]
      have hv2 : 64 ≤ v ∧ v < 9223372036854775808 := by split at hv <;> omega
      by_cases h128 : v < 128
      · have := bitLen_mid ⟨v, h128⟩ hv2.1
        simp only at this
        rw [this, Nat.div_eq_of_lt h128]
        decide
      · have h7 := Lib.bitLen_shift 7 v (by omega) (by omega)
        rw [show (2 : Nat) ^ 7 = 128 from rfl] at h7
        omega

theorem xor_m1 (x : Int) (h1 : -9223372036854775808 ≤ x) (h2 : x ≤ 9223372036854775807) : bits .xor .i64 (-1) x = -x - 1 := by
  have e : (BitVec.ofInt 64 (-1) ^^^ BitVec.ofInt 64 x) = BitVec.ofInt 64 (-x - 1) := by
    have h3 : BitVec.ofInt 64 (-1) = BitVec.allOnes 64 := by decide
    rw [h3, BitVec.allOnes_xor]
    apply BitVec.eq_of_toNat_eq
    rw [BitVec.toNat_not, BitVec.toNat_ofInt, BitVec.toNat_ofInt]
    omega
  show IntKind.i64.wrap (((BitVec.ofInt 64 (-1) ^^^ BitVec.ofInt 64 x).toNat : Nat) : Int) = _
  rw [e, BitVec.toNat_ofInt, IntKind.wrap_i64]
  omega

theorem sizeS_any (x : Int) (w : World) (h1 : -9223372036854775808 ≤ x) (h2 : x ≤ 9223372036854775807) :
    Calls Try.prog 21 #[.int .i64 x] w fun e w' => e = .returned (.int .i64 (encS x 0).length) ∧ w = w' := by
  have hs := encS_bits _ x (Nat.le_refl _) h1 h2
  have hb := bitLen_le (if x < 0 then -x - 1 else x).toNat
  by_cases hneg : x < 0
  · rw [if_pos hneg, show (-x - 1).toNat = (-x).toNat - 1 by omega] at hs hb
    have hx := xor_m1 x h1 h2
    have HS : Hid (((Lib.bitLen ((-x).toNat - 1) : Int) + 7) / 7 = (encS x 0).length) := by
      show ((Lib.bitLen ((-x).toNat - 1) : Int) + 7) / 7 = (encS x 0).length
      omega
    clear hs
    have hw : IntKind.u64.wrap (-x - 1) = -x - 1 := by rw [IntKind.wrap_u64]; omega
    go_enter Try.func21, Try.ntmps21
    go_wp2_with (go_at_call 58; refine (Try.bits_Len64 _ _ (by omega) (by omega)).mono ?_; rintro e w' ⟨rfl, rfl⟩)
    go_ret
    refine ⟨?_, rfl⟩
    show Ending.returned (.int .i64 (((Lib.bitLen ((-x).toNat - 1) : Int) + 7) / 7)) = _
    rw [HS.out]
  · rw [if_neg hneg] at hs hb
    have HS : Hid (((Lib.bitLen x.toNat : Int) + 7) / 7 = (encS x 0).length) := by
      show ((Lib.bitLen x.toNat : Int) + 7) / 7 = (encS x 0).length
      omega
    clear hs
    go_enter Try.func21, Try.ntmps21
    go_wp2_with (go_at_call 58; refine (Try.bits_Len64 _ _ (by omega) (by omega)).mono ?_; rintro e w' ⟨rfl, rfl⟩)
    go_ret
    refine ⟨?_, rfl⟩
    show Ending.returned (.int .i64 (((Lib.bitLen x.toNat : Int) + 7) / 7)) = _
    rw [HS.out]
end Go.Proofs.Ytlmimlnflcfccaa
