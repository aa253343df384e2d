/-
  The walks of package leb: what PutU, PutS put.
-/
import Derived.Test.YtnngibflnnmioaaByt
import Derived.Test.YtnngibflnnmioaaShelf
namespace Go.Proofs.Ytnngibflnnmioaa
open Go.RowKit Go.Proofs.Leb Go.Proofs.Own
set_option maxRecDepth 100000
set_option maxHeartbeats 2000000

theorem putU_any (v : Value) (bs : List UInt8) (x : Nat) (w : World) (hx : x < 18446744073709551616) (hn : bs.length ≤ 100000000) (hown : Bytes w v bs) :
    Calls Try.prog 41 #[v, .int .u64 x] w (Post w v (bs ++ encU x 0)) := by
  go_enter Try.func41, Try.ntmps41
  go_wp2_with fail
  go_loopw [0, 1] (fun b c wr => ∃ (d : List UInt8) (y : Nat), c = .int .u64 y ∧ y < 18446744073709551616 ∧ d ++ encU y 0 = bs ++ encU x 0 ∧ Bytes wr b d ∧ Adds w wr v b)
    (fun _ c _ => (intOf c).toNat)
  case atStart => exact ⟨bs, x, rfl, hx, rfl, hown, Adds.refl _ _⟩
  case round =>
    obtain ⟨d, y, rfl, hy, hd, hb, ha⟩ := hrel
    have hlen : d.length ≤ 100000010 := by
      have h1 := congrArg List.length hd
      have h2 := encU_len_le 10 x (by decide) (Nat.lt_trans hx (by decide))
      simp only [List.length_append] at h1
      omega
    have HD := hid hd
    clear hd
    by_cases hlt : (128 : Int) ≤ y
    · go_wp2_with (at_builtin; refine hold ?_)
      refine appB (.tmp 7) (.tmp 11) (UInt8.ofNat (y % 128 + 128)) hb ?_ (by omega) rfl rfl rfl rfl ?_
      · rw [or128, u8_of _ (by omega)]
      intro v' w1 hb1 ha1
      have ha2 := ha.trans ha1
      clear ha1 hb ha
      go_wp2_with fail
      go_roundw
      case rel =>
        refine ⟨_, y / 128, by go_num, by omega, ?_, hb1, ha2⟩
        rw [← HD.out, encU_more y 0 (by omega), if_neg (by omega)]
        simp
      case measure => simp [intOf]; omega
    · go_wp2_with (at_builtin; refine hold ?_)
      refine appB (.tmp 15) (.tmp 18) (UInt8.ofNat y) hb ?_ (by omega) rfl rfl rfl rfl ?_
      · rw [u8_of _ (by omega)]
      intro v' w1 hb1 ha1
      have ha2 := ha.trans ha1
      clear ha1 hb ha
      go_wp2_with fail
      go_ret
      refine ⟨v', rfl, ?_, ha2⟩
      rw [← HD.out, encU_last y (by omega)]
      exact hb1

theorem putS_any (v : Value) (bs : List UInt8) (x : Int) (w : World) (h1 : -9223372036854775808 ≤ x) (h2 : x ≤ 9223372036854775807) (hn : bs.length ≤ 100000000) (hown : Bytes w v bs) :
    Calls Try.prog 42 #[v, .int .i64 x] w (Post w v (bs ++ encS x 0)) := by
  go_enter Try.func42, Try.ntmps42
  go_wp2_with fail
  go_loopw [0, 1] (fun b c wr => ∃ (d : List UInt8) (y : Int), c = .int .i64 y ∧ -9223372036854775808 ≤ y ∧ y ≤ 9223372036854775807 ∧ d ++ encS y 0 = bs ++ encS x 0 ∧ Bytes wr b d ∧ Adds w wr v b)
    (fun _ c _ => (intOf c).natAbs)
  case atStart => exact ⟨bs, x, rfl, h1, h2, rfl, hown, Adds.refl _ _⟩
  case round =>
    obtain ⟨d, y, rfl, hy1, hy2, hd, hb, ha⟩ := hrel
    have hlen : d.length ≤ 100000010 := by
      have h3 := congrArg List.length hd
      have h4 := encS_len_le 10 x (by decide) (by omega) (by omega)
      simp only [List.length_append] at h3
      omega
    have HD := hid hd
    clear hd
    have hcase : y < -64 ∨ (¬ y < -64 ∧ 63 < y) ∨ (¬ y < -64 ∧ ¬ 63 < y) := by omega
    rcases hcase with hlt | ⟨hge, hgt⟩ | ⟨hge, hle⟩
    · go_wp2_with (at_builtin; refine hold ?_)
      refine appB (.tmp 11) (.tmp 15) (UInt8.ofNat ((y % 128).toNat + 128)) hb ?_ (by omega) rfl rfl rfl rfl ?_
      · rw [or128i, u8_of _ (by omega)]; omega
      intro v' w1 hb1 ha1
      have ha2 := ha.trans ha1
      clear ha1 hb ha
      go_wp2_with fail
      go_roundw
      case rel =>
        refine ⟨_, y / 128, by go_num, by omega, by omega, ?_, hb1, ha2⟩
        rw [← HD.out, encS_more y 0 (by omega), if_neg (by omega)]
        simp
      case measure => simp [intOf]; omega
    · go_wp2_with (at_builtin; refine hold ?_)
      refine appB (.tmp 11) (.tmp 15) (UInt8.ofNat ((y % 128).toNat + 128)) hb ?_ (by omega) rfl rfl rfl rfl ?_
      · rw [or128i, u8_of _ (by omega)]; omega
      intro v' w1 hb1 ha1
      have ha2 := ha.trans ha1
      clear ha1 hb ha
      go_wp2_with fail
      go_roundw
      case rel =>
        refine ⟨_, y / 128, by go_num, by omega, by omega, ?_, hb1, ha2⟩
        rw [← HD.out, encS_more y 0 (by omega), if_neg (by omega)]
        simp
      case measure => simp [intOf]; omega
    · go_wp2_with (at_builtin; refine hold ?_)
      refine appB (.tmp 19) (.tmp 23) (UInt8.ofNat (y % 128).toNat) hb ?_ (by omega) rfl rfl rfl rfl ?_
      · rw [and127i, u8_of _ (by omega)]; omega
      intro v' w1 hb1 ha1
      have ha2 := ha.trans ha1
      clear ha1 hb ha
      go_wp2_with fail
      go_ret
      refine ⟨v', rfl, ?_, ha2⟩
      rw [← HD.out, encS_last y (by omega) (by omega)]
      exact hb1

end Go.Proofs.Ytnngibflnnmioaa
