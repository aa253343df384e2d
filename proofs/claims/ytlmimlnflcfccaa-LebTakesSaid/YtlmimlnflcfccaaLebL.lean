/-
  The laws of layer 1: what their text comes to.
-/
import Derived.Test.YtlmimlnflcfccaaLebA
import Derived.Test.YtlmimlnflcfccaaFrm
namespace Go.Proofs.Ytlmimlnflcfccaa
open Go.RowKit Go.Proofs.Leb Go.Proofs.Own
set_option maxRecDepth 100000
set_option maxHeartbeats 2000000

theorem lebTakes_walk (v : Value) (bs : List UInt8) (n : Int) (w : World) (hr : Rd w v bs) (hb : bs.length ≤ 9223372036854775807) (n1 : -9223372036854775808 ≤ n) (n2 : n ≤ 9223372036854775807) :
    Calls Try.prog 4 #[v, .int .i64 n] w (True' w) := by
  have HR := hid hr
  obtain ⟨a, cap, rfl, -⟩ := hr
  by_cases hl : (60 : Int) < bs.length
  · go_enter Try.func4, Try.ntmps4
    go_wp2_with fail
    go_ret
    exact ⟨rfl, Upd.refl _ _⟩
  · have hl8 : bs.length ≤ 100000000 := by omega
    have hc := clamp_bd n
    have H1 := hid (fun w' h => U_any (.slice a bs.length cap) bs n w' h hl8 n1 n2)
    have H2 := hid (fun w' h => refU_any (.slice a bs.length cap) bs (clamp n) w' h hl8 hc.1 hc.2)
    have H3 := hid (fun w' h => S_any (.slice a bs.length cap) bs n w' h hl8 n1 n2)
    have H4 := hid (fun w' h => refS_any (.slice a bs.length cap) bs (clamp n) w' h hl8 hc.1 hc.2)
    have H5 := hid (fun w => bits_any n w n1 n2)
    clear hc
    go_enter Try.func4, Try.ntmps4
    go_wp2_with (first
      | (go_at_call 23; refine (H1.out _ HR.out).mono ?_; rintro e w' ⟨rfl, rfl⟩)
      | (go_at_call 25; refine (H5.out _).mono ?_; rintro e w' ⟨rfl, rfl⟩)
      | (go_at_call 24; refine (H2.out _ HR.out).mono ?_; rintro e w' ⟨rfl, rfl⟩)
      | (go_at_call 26; refine (H3.out _ HR.out).mono ?_; rintro e w' ⟨rfl, rfl⟩)
      | (go_at_call 27; refine (H4.out _ HR.out).mono ?_; rintro e w' ⟨rfl, rfl⟩)
      | (go_at_call 22; refine (awake1_any _).mono ?_; rintro e w' ⟨rfl, hw⟩))
    go_ret
    exact ⟨rfl, hw⟩
end Go.Proofs.Ytlmimlnflcfccaa
