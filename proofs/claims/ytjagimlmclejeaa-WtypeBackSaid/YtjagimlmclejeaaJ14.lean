/-
  The walks of package leb: what PutU, PutS put.
-/
import Derived.Test.YtjagimlmclejeaaJ4
import Derived.Test.YtjagimlmclejeaaJ13
namespace Go.Proofs.Ytjagimlmclejeaa
open Go.RowKit Go.Proofs.Leb Go.Proofs.Own
set_option maxRecDepth 100000
set_option maxHeartbeats 2000000

theorem putU_any (v : Value) (bs : List UInt8) (x : Nat) (w : World) (hx : x < 18446744073709551616) (hn : bs.length ≤ 100000000) (hown : Bytes w v bs) :
    Calls Try.prog 43 #[v, .int .u64 x] w (Post w v (bs ++ encU x 0)) := by
  go_enter Try.func43, Try.ntmps43
  go_wp2_with fail
  go_loopw [0, 1] (fun b c wr => ∃ (d : List UInt8) (y : Nat), c = .int .u64 y ∧ y < 18446744073709551616 ∧ d ++ encU y 0 = bs ++ encU x 0 ∧ Bytes wr b d ∧ Adds w wr v b)
    (fun _ c _ => (intOf c).toNat)
  case atStart => exact ⟨bs, x, rfl, hx, rfl, hown, Adds.refl _ _⟩
  case round =>
    obtain ⟨d, y, rfl, hy, hd, hb, ha⟩ := hrel
    have hlen : d.length ≤ 100000010 := by
      have h1 := congrArg List.length hd
      have h2 := encU_len_le 10 x (by decide) (Nat.lt_trans hx (by decide))
      simp only [List.length_append] at h1
      omega
    have HD := hid hd
    clear hd
    by_cases hlt : (128 : Int) ≤ y
    · go_wp2_with (at_builtin; refine hold ?_)
      refine appB (.tmp 7) (.tmp 11) (UInt8.ofNat (y % 128 + 128)) hb ?_ (by omega) rfl rfl rfl rfl ?_
      · rw [or128, u8_of _ (by omega)]
      intro v' w1 hb1 ha1
      have ha2 := ha.trans ha1
      clear ha1 hb ha
      go_wp2_with fail
      go_roundw
      case rel =>
        refine ⟨_, y / 128, by go_num, by omega, ?_, hb1, ha2⟩
        rw [← HD.out, encU_more y 0 (by omega), if_neg (by omega)]
        simp
      case measure => simp [intOf]; omega
    · go_wp2_with (at_builtin; refine hold ?_)
      refine appB (.tmp 15) (.tmp 18) (UInt8.ofNat y) hb ?_ (by omega) rfl rfl rfl rfl ?_
      · rw [u8_of _ (by omega)]
      intro v' w1 hb1 ha1
      have ha2 := ha.trans ha1
      clear ha1 hb ha
      go_wp2_with fail
      go_ret
      refine ⟨v', rfl, ?_, ha2⟩
      rw [← HD.out, encU_last y (by omega)]
      exact hb1

end Go.Proofs.Ytjagimlmclejeaa

namespace Go.Proofs.Ytjagimlmclejeaa
open Go.RowKit Go.Proofs.Leb Go.Proofs.Own
set_option maxRecDepth 100000
set_option maxHeartbeats 2000000

theorem refPutU_any (v : Value) (bs : List UInt8) (x more : Nat) (w : World) (hx : x < 18446744073709551616) (hm : more ≤ 1000) (hn : bs.length ≤ 100000000) (hr : Rd w v bs) :
    Calls Try.prog 69 #[v, .int .u64 x, .int .i64 more] w (PostN w (bs ++ encU x more)) := by
  go_enter Try.func69, Try.ntmps69
  go_wp2_with (at_builtin; refine hold ?_)
  refine appR (.tmp 8) (.tmp 9) (Bytes.made w) (hr.new ((Upd.refl _ _).alloc _)) (by simp only [List.length_nil]; omega) rfl rfl rfl rfl ?_
  intro v0 w0 hb0 ha0
  rw [List.nil_append] at hb0
  obtain ⟨hnew, hfr⟩ := Adds.made rfl ha0
  clear ha0 hr
  go_wp2_with fail
  go_loopw [1, 2, 7] (fun c m b wr => ∃ (d : List UInt8) (y k : Nat), c = .int .u64 y ∧ m = .int .i64 k ∧ y < 18446744073709551616 ∧ k ≤ more ∧ d ++ encU y k = bs ++ encU x more ∧ Bytes wr b d ∧ New w wr ∧ Fresh w b)
    (fun c m _ _ => (intOf c).toNat + (intOf m).toNat)
  case atStart => exact ⟨bs, x, more, rfl, rfl, hx, Nat.le_refl _, rfl, hb0, hnew, hfr⟩
  case round =>
    obtain ⟨d, y, k, rfl, rfl, hy, hk, hd, hb, hw, hf⟩ := hrel
    have hlen : d.length ≤ 100001010 := by
      have h1 := congrArg List.length hd
      have h2 := encU_len_le 10 x (by decide) (Nat.lt_trans hx (by decide))
      have h3 := encU_len x more
      simp only [List.length_append] at h1
      omega
    have HD := hid hd
    clear hd hb0 hnew hfr
    have hcase : (127 : Int) < y ∨ (¬ (127 : Int) < y ∧ (0 : Int) < k) ∨ (¬ (127 : Int) < y ∧ ¬ (0 : Int) < k) := by omega
    rcases hcase with hlt | ⟨hge, hgt⟩ | ⟨hge, hle⟩
    · have hle : ¬ ((y : Int) ≤ 127) := by omega
      go_wp2_with (at_builtin; refine hold ?_)
      refine appB (.tmp 21) (.tmp 26) (UInt8.ofNat (y % 128 + 128)) hb (by rw [u8_of _ (by omega)]; omega) (by omega) rfl rfl rfl rfl ?_
      intro v' w1 hb1 ha1
      have hw1 := hw.newAdds hf ha1
      have hf1 := hf.adds hw.size ha1
      clear ha1 hb hw hf
      go_wp2_with fail
      go_roundw
      case rel =>
        refine ⟨_, y / 128, k, by go_num, rfl, by omega, hk, ?_, hb1, hw1, hf1⟩
        rw [← HD.out, encU_more y k (by omega), if_neg (by omega)]
        simp
      case measure => simp [intOf]; omega
    · have hle : ((y : Int) ≤ 127) := by omega
      go_wp2_with (at_builtin; refine hold ?_)
      refine appB (.tmp 21) (.tmp 26) (UInt8.ofNat (y % 128 + 128)) hb (by rw [u8_of _ (by omega)]; omega) (by omega) rfl rfl rfl rfl ?_
      intro v' w1 hb1 ha1
      have hw1 := hw.newAdds hf ha1
      have hf1 := hf.adds hw.size ha1
      clear ha1 hb hw hf
      go_wp2_with fail
      go_roundw
      case rel =>
        refine ⟨_, y / 128, k - 1, by go_num, by go_num, by omega, by omega, ?_, hb1, hw1, hf1⟩
        rw [← HD.out, encU_more y k (by omega), if_pos (by omega)]
        simp
      case measure => simp [intOf]; omega
    · go_wp2_with (at_builtin; refine hold ?_)
      refine appB (.tmp 30) (.tmp 33) (UInt8.ofNat y) hb (by rw [u8_of _ (by omega)]) (by omega) rfl rfl rfl rfl ?_
      intro v' w1 hb1 ha1
      have hw1 := hw.newAdds hf ha1
      have hf1 := hf.adds hw.size ha1
      clear ha1 hb hw hf
      go_wp2_with fail
      go_ret
      refine ⟨v', rfl, ?_, hw1, hf1⟩
      have hk0 : k = 0 := by omega
      subst hk0
      rw [← HD.out, encU_last y (by omega)]
      exact hb1

end Go.Proofs.Ytjagimlmclejeaa

namespace Go.Proofs.Ytjagimlmclejeaa
open Go.RowKit Go.Proofs.Leb Go.Proofs.Own
set_option maxRecDepth 100000
set_option maxHeartbeats 2000000

end Go.Proofs.Ytjagimlmclejeaa
