/-
  A slice of bytes as a string.
-/
import Derived.Test.YtjagimlmclejeaaJ4
import Derived.Laws.IdiomStrings
namespace Go.Proofs.Ytjagimlmclejeaa
open Go.RowKit Go.Proofs.Own
set_option maxRecDepth 100000
set_option maxHeartbeats 2000000

/-- a slice of bytes as a string -/
theorem Rd.str {w : World} {v : Value} {bs : List UInt8} (h : Rd w v bs) : (convert 50 9 v).run Try.prog w = .ok (.string ⟨bs.toArray⟩) w := by
  obtain ⟨a, cap, rfl, h1, h2, h3⟩ := h
  cases a with
  | none =>
    have hc := h2 rfl
    subst hc
    have : bs = [] := List.eq_nil_of_length_eq_zero (by omega)
    subst this
    exact run_convert_bytes_nil (P := Try.prog) w 50 5 Try.underlying50 Try.underlying5 0 0 9 Try.underlying9
  | some ad =>
    exact run_convert_bytes_back (P := Try.prog) w 50 9 5 ad cap bs Try.underlying50 Try.underlying5 Try.underlying9 (fun j hj => by
      obtain ⟨b, o, e, hc⟩ := h3 (by intro e; subst e; simp at hj)
      cases e
      rw [Addr.add_lit]
      exact hc j hj)
end Go.Proofs.Ytjagimlmclejeaa
