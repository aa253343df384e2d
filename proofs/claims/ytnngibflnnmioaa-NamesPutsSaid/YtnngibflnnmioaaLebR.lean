/-
  The walks of the document's answers for numbers by sevens.
-/
import Derived.Test.YtnngibflnnmioaaLebP
namespace Go.Proofs.Ytnngibflnnmioaa
open Go.RowKit Go.Proofs.Leb Go.Proofs.Own
set_option maxRecDepth 100000
set_option maxHeartbeats 2000000

theorem refPutU_any (v : Value) (bs : List UInt8) (x more : Nat) (w : World) (hx : x < 18446744073709551616) (hm : more ≤ 1000) (hn : bs.length ≤ 100000000) (hr : Rd w v bs) :
    Calls Try.prog 74 #[v, .int .u64 x, .int .i64 more] w (PostN w (bs ++ encU x more)) := by
  go_enter Try.func74, Try.ntmps74
  go_wp2_with (at_builtin; refine hold ?_)
  refine appR (.tmp 8) (.tmp 9) (Bytes.made w) (hr.new ((Upd.refl _ _).alloc _)) (by simp only [List.length_nil]; omega) rfl rfl rfl rfl ?_
  intro v0 w0 hb0 ha0
  rw [List.nil_append] at hb0
  obtain ⟨hnew, hfr⟩ := Adds.made rfl ha0
  clear ha0 hr
  go_wp2_with fail
  go_loopw [1, 2, 7] (fun c m b wr => ∃ (d : List UInt8) (y k : Nat), c = .int .u64 y ∧ m = .int .i64 k ∧ y < 18446744073709551616 ∧ k ≤ more ∧ d ++ encU y k = bs ++ encU x more ∧ Bytes wr b d ∧ New w wr ∧ Fresh w b)
    (fun c m _ _ => (intOf c).toNat + (intOf m).toNat)
  case atStart => exact ⟨bs, x, more, rfl, rfl, hx, Nat.le_refl _, rfl, hb0, hnew, hfr⟩
  case round =>
    obtain ⟨d, y, k, rfl, rfl, hy, hk, hd, hb, hw, hf⟩ := hrel
    have hlen : d.length ≤ 100001010 := by
      have h1 := congrArg List.length hd
      have h2 := encU_len_le 10 x (by decide) (Nat.lt_trans hx (by decide))
      have h3 := encU_len x more
      simp only [List.length_append] at h1
      omega
    have HD := hid hd
    clear hd hb0 hnew hfr
    have hcase : (127 : Int) < y ∨ (¬ (127 : Int) < y ∧ (0 : Int) < k) ∨ (¬ (127 : Int) < y ∧ ¬ (0 : Int) < k) := by omega
    rcases hcase with hlt | ⟨hge, hgt⟩ | ⟨hge, hle⟩
    · have hle : ¬ ((y : Int) ≤ 127) := by omega
      go_wp2_with (at_builtin; refine hold ?_)
      refine appB (.tmp 21) (.tmp 26) (UInt8.ofNat (y % 128 + 128)) hb (by rw [u8_of _ (by omega)]; omega) (by omega) rfl rfl rfl rfl ?_
      intro v' w1 hb1 ha1
      have hw1 := hw.newAdds hf ha1
      have hf1 := hf.adds hw.size ha1
      clear ha1 hb hw hf
      go_wp2_with fail
      go_roundw
      case rel =>
        refine ⟨_, y / 128, k, by go_num, rfl, by omega, hk, ?_, hb1, hw1, hf1⟩
        rw [← HD.out, encU_more y k (by omega), if_neg (by omega)]
        simp
      case measure => simp [intOf]; omega
    · have hle : ((y : Int) ≤ 127) := by omega
      go_wp2_with (at_builtin; refine hold ?_)
      refine appB (.tmp 21) (.tmp 26) (UInt8.ofNat (y % 128 + 128)) hb (by rw [u8_of _ (by omega)]; omega) (by omega) rfl rfl rfl rfl ?_
      intro v' w1 hb1 ha1
      have hw1 := hw.newAdds hf ha1
      have hf1 := hf.adds hw.size ha1
      clear ha1 hb hw hf
      go_wp2_with fail
      go_roundw
      case rel =>
        refine ⟨_, y / 128, k - 1, by go_num, by go_num, by omega, by omega, ?_, hb1, hw1, hf1⟩
        rw [← HD.out, encU_more y k (by omega), if_pos (by omega)]
        simp
      case measure => simp [intOf]; omega
    · go_wp2_with (at_builtin; refine hold ?_)
      refine appB (.tmp 30) (.tmp 33) (UInt8.ofNat y) hb (by rw [u8_of _ (by omega)]) (by omega) rfl rfl rfl rfl ?_
      intro v' w1 hb1 ha1
      have hw1 := hw.newAdds hf ha1
      have hf1 := hf.adds hw.size ha1
      clear ha1 hb hw hf
      go_wp2_with fail
      go_ret
      refine ⟨v', rfl, ?_, hw1, hf1⟩
      have hk0 : k = 0 := by omega
      subst hk0
      rw [← HD.out, encU_last y (by omega)]
      exact hb1

theorem refPutS_any (v : Value) (bs : List UInt8) (x : Int) (more : Nat) (w : World) (hx1 : -9223372036854775808 ≤ x) (hx2 : x ≤ 9223372036854775807) (hm : more ≤ 1000) (hn : bs.length ≤ 100000000) (hr : Rd w v bs) :
    Calls Try.prog 75 #[v, .int .i64 x, .int .i64 more] w (PostN w (bs ++ encS x more)) := by
  go_enter Try.func75, Try.ntmps75
  go_wp2_with (at_builtin; refine hold ?_)
  refine appR (.tmp 9) (.tmp 10) (Bytes.made w) (hr.new ((Upd.refl _ _).alloc _)) (by simp only [List.length_nil]; omega) rfl rfl rfl rfl ?_
  intro v0 w0 hb0 ha0
  rw [List.nil_append] at hb0
  obtain ⟨hnew, hfr⟩ := Adds.made rfl ha0
  clear ha0 hr
  go_wp2_with fail
  go_loopw [1, 2, 7] (fun c m b wr => ∃ (d : List UInt8) (y : Int) (k : Nat), c = .int .i64 y ∧ m = .int .i64 k ∧ -9223372036854775808 ≤ y ∧ y ≤ 9223372036854775807 ∧ k ≤ more ∧ d ++ encS y k = bs ++ encS x more ∧ Bytes wr b d ∧ New w wr ∧ Fresh w b)
    (fun c m _ _ => (intOf c).natAbs + (intOf m).toNat)
  case atStart => exact ⟨bs, x, more, rfl, rfl, hx1, hx2, Nat.le_refl _, rfl, hb0, hnew, hfr⟩
  case round =>
    obtain ⟨d, y, k, rfl, rfl, hy1, hy2, hk, hd, hb, hw, hf⟩ := hrel
    have hlen : d.length ≤ 100001010 := by
      have h1 := congrArg List.length hd
      have h2 := encS_len_le 10 x (by decide) (by omega) (by omega)
      have h3 := encS_len _ x more (Nat.le_refl _)
      simp only [List.length_append] at h1
      omega
    have HD := hid hd
    clear hd hb0 hnew hfr
    have hcase : (63 : Int) < y ∨ (¬ (63 : Int) < y ∧ y < -64) ∨ (¬ (63 : Int) < y ∧ ¬ y < -64 ∧ (0 : Int) < k) ∨ (¬ (63 : Int) < y ∧ ¬ y < -64 ∧ ¬ (0 : Int) < k) := by omega
    rcases hcase with hlt | ⟨hge, hlt⟩ | ⟨hge, hge2, hgt⟩ | ⟨hge, hge2, hle⟩
    · have hle : ¬ (y ≤ 63) := by omega
      go_wp2_with (at_builtin; refine hold ?_)
      refine appB (.tmp 36) (.tmp 40) (UInt8.ofNat ((y % 128).toNat + 128)) hb (by rw [u8_of _ (by omega)]; omega) (by omega) rfl rfl rfl rfl ?_
      intro v' w1 hb1 ha1
      have hw1 := hw.newAdds hf ha1
      have hf1 := hf.adds hw.size ha1
      clear ha1 hb hw hf
      go_wp2_with fail
      go_roundw
      case rel =>
        refine ⟨_, y / 128, k, by go_num, rfl, by omega, by omega, by omega, ?_, hb1, hw1, hf1⟩
        rw [← HD.out, encS_more y k (by omega), if_neg (by omega)]
        simp
      case measure => simp [intOf]; omega
    · have hle : y ≤ 63 := by omega
      have hle2 : ¬ (-64 ≤ y) := by omega
      have e2 : (y - y % 128).tdiv 128 = y / 128 := tdiv128 y
      by_cases ht : y % 128 = 0
      · have e1 : y.tmod 128 = 0 := by rw [tmod128 y (by omega), if_pos ht]
        have e3 : y.tdiv 128 = y / 128 := by rw [← e2, ht, Int.sub_zero]
        go_wp2_with (at_builtin; refine hold ?_)
        refine appB (.tmp 36) (.tmp 40) (UInt8.ofNat ((y % 128).toNat + 128)) hb (by rw [u8_of _ (by omega)]; omega) (by omega) rfl rfl rfl rfl ?_
        intro v' w1 hb1 ha1
        have hw1 := hw.newAdds hf ha1
        have hf1 := hf.adds hw.size ha1
        clear ha1 hb hw hf
        go_wp2_with fail
        go_roundw
        case rel =>
          refine ⟨_, y / 128, k, by go_num, rfl, by omega, by omega, by omega, ?_, hb1, hw1, hf1⟩
          rw [← HD.out, encS_more y k (by omega), if_neg (by omega)]
          simp
        case measure => simp [intOf]; omega
      · have e1 : y.tmod 128 = y % 128 - 128 := by rw [tmod128 y (by omega), if_neg ht]
        go_wp2_with (at_builtin; refine hold ?_)
        refine appB (.tmp 36) (.tmp 40) (UInt8.ofNat ((y % 128).toNat + 128)) hb (by rw [u8_of _ (by omega)]; omega) (by omega) rfl rfl rfl rfl ?_
        intro v' w1 hb1 ha1
        have hw1 := hw.newAdds hf ha1
        have hf1 := hf.adds hw.size ha1
        clear ha1 hb hw hf
        go_wp2_with fail
        go_roundw
        case rel =>
          refine ⟨_, y / 128, k, by go_num, rfl, by omega, by omega, by omega, ?_, hb1, hw1, hf1⟩
          rw [← HD.out, encS_more y k (by omega), if_neg (by omega)]
          simp
        case measure => simp [intOf]; omega
    · have hle : y ≤ 63 := by omega
      have hle2 : -64 ≤ y := by omega
      have e2 : (y - y % 128).tdiv 128 = y / 128 := tdiv128 y
      by_cases hneg : y < 0
      · have e1 : y.tmod 128 = y % 128 - 128 := by rw [tmod128 y (by omega), if_neg (by omega)]
        go_wp2_with (at_builtin; refine hold ?_)
        refine appB (.tmp 36) (.tmp 40) (UInt8.ofNat ((y % 128).toNat + 128)) hb (by rw [u8_of _ (by omega)]; omega) (by omega) rfl rfl rfl rfl ?_
        intro v' w1 hb1 ha1
        have hw1 := hw.newAdds hf ha1
        have hf1 := hf.adds hw.size ha1
        clear ha1 hb hw hf
        go_wp2_with fail
        go_roundw
        case rel =>
          refine ⟨_, y / 128, k - 1, by go_num, by go_num, by omega, by omega, by omega, ?_, hb1, hw1, hf1⟩
          rw [← HD.out, encS_more y k (by omega), if_pos (by omega)]
          simp
        case measure => simp [intOf]; omega
      · have h0 : 0 ≤ y := by omega
        go_wp2_with (at_builtin; refine hold ?_)
        refine appB (.tmp 36) (.tmp 40) (UInt8.ofNat ((y % 128).toNat + 128)) hb (by rw [u8_of _ (by omega)]; omega) (by omega) rfl rfl rfl rfl ?_
        intro v' w1 hb1 ha1
        have hw1 := hw.newAdds hf ha1
        have hf1 := hf.adds hw.size ha1
        clear ha1 hb hw hf
        go_wp2_with fail
        go_roundw
        case rel =>
          refine ⟨_, y / 128, k - 1, by go_num, by go_num, by omega, by omega, by omega, ?_, hb1, hw1, hf1⟩
          rw [← HD.out, encS_more y k (by omega), if_pos (by omega)]
          simp
        case measure => simp [intOf]; omega
    · by_cases hneg : y < 0
      · go_wp2_with (at_builtin; refine hold ?_)
        refine appB (.tmp 50) (.tmp 53) (UInt8.ofNat (y % 128).toNat) hb (by rw [u8_of _ (by omega)]; omega) (by omega) rfl rfl rfl rfl ?_
        intro v' w1 hb1 ha1
        have hw1 := hw.newAdds hf ha1
        have hf1 := hf.adds hw.size ha1
        clear ha1 hb hw hf
        go_wp2_with fail
        go_ret
        refine ⟨v', rfl, ?_, hw1, hf1⟩
        have hk0 : k = 0 := by omega
        subst hk0
        rw [← HD.out, encS_last y (by omega) (by omega)]
        exact hb1
      · have h0 : 0 ≤ y := by omega
        go_wp2_with (at_builtin; refine hold ?_)
        refine appB (.tmp 50) (.tmp 53) (UInt8.ofNat (y % 128).toNat) hb (by rw [u8_of _ (by omega)]; omega) (by omega) rfl rfl rfl rfl ?_
        intro v' w1 hb1 ha1
        have hw1 := hw.newAdds hf ha1
        have hf1 := hf.adds hw.size ha1
        clear ha1 hb hw hf
        go_wp2_with fail
        go_ret
        refine ⟨v', rfl, ?_, hw1, hf1⟩
        have hk0 : k = 0 := by omega
        subst hk0
        rw [← HD.out, encS_last y (by omega) (by omega)]
        exact hb1

end Go.Proofs.Ytnngibflnnmioaa
