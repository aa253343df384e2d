/-
  A literal of bytes, read.
-/
import Derived.Test.YtjagimlmclejeaaJ4
namespace Go.Proofs.Ytjagimlmclejeaa
open Go.RowKit Go.Proofs.Own

/-- a literal -/
theorem Rd.lit (w : World) (bs : List UInt8) (e : TypeId) : Rd (w.alloc (.cells (bs.map cb).toArray e)) (.slice (some ⟨w.heap.size, 0, none⟩) bs.length bs.length) bs := by
  refine ⟨_, _, rfl, Nat.le_refl _, (fun h => by cases h), fun _ => ⟨_, _, rfl, fun i hi => ?_⟩⟩
  rw [cell_of_row _ w.heap.size (0 + i) _ e (0, 0) (heap_alloc_new w _)]
  simp [hi]
theorem cb_of (n : Nat) (h : n < 256) : cb (UInt8.ofNat n) = .int .u8 n := by unfold cb; rw [Leb.u8_of n h]
end Go.Proofs.Ytjagimlmclejeaa
