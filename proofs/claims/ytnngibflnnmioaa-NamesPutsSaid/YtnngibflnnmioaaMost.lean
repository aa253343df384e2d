/-
  The walk of the document's greatest count of digits.
-/
import Derived.Test.YtnngibflnnmioaaLebR
namespace Go.Proofs.Ytnngibflnnmioaa
open Go.RowKit Go.Proofs.Leb Go.Proofs.Own
set_option maxRecDepth 100000
set_option maxHeartbeats 2000000

theorem refMost_any (n : Int) (m : Nat) (w : World) (hm : n = m) (h2 : m ≤ 64) :
    Calls Try.prog 76 #[.int .i64 n] w fun e w' => e = .returned (.int .i64 (most m)) ∧ w = w' := by
  subst hm
  by_cases h : (m : Int) % 7 = 0
  · have hb : ((m : Int) % 7 == 0) = true := by rw [beq_iff_eq]; exact h
    have HM : Hid ((m : Int) / 7 = (most m : Nat)) := by show (m : Int) / 7 = (most m : Nat); unfold most; omega
    clear h
    go_enter Try.func76, Try.ntmps76
    go_wp2_with fail
    go_ret
    exact ⟨by rw [← HM.out]; rfl, rfl⟩
  · have hb : ((m : Int) % 7 == 0) = false := by rw [beq_eq_false_iff_ne]; exact h
    have HM : Hid ((m : Int) / 7 + 1 = (most m : Nat)) := by show (m : Int) / 7 + 1 = (most m : Nat); unfold most; omega
    clear h
    go_enter Try.func76, Try.ntmps76
    go_wp2_with fail
    go_ret
    exact ⟨by rw [← HM.out]; rfl, rfl⟩
end Go.Proofs.Ytnngibflnnmioaa
