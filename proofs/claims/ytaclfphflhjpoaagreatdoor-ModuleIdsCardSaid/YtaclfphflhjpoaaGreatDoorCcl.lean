/-
  The small words of the texts over any program.
-/
import Derived.Test.YtaclfphflhjpoaaGreatDoorChecked
import Derived.Test.YtaclfphflhjpoaaGreatDoorFrm
namespace Go.Proofs.YtaclfphflhjpoaaGreatDoor
open Go.RowKit Go.Proofs.Own
def IsNew (b : Bool) (w : World) (e : Ending) (w' : World) : Prop := e = .returned (.bool b) ∧ New w w'
theorem hp1 {w w' : World} {g : Nat} {o : Obj} (h : w.heap[g]? = some o) (hn : New w w') : w'.heap[g]? = some o :=
  (hn.block g (Array.getElem?_eq_some_iff.1 h).1 (fun h => h)).trans h
theorem cellAt {w : World} {g : Nat} {cs : Array Value} {t : TypeId} (h : w.heap[g]? = some (.cells cs t)) (i : Nat) {v : Value} (hv : cs[i]? = some v) : w.cell? ⟨g, i, none⟩ = some v := by
  rw [cell_of_row _ g i _ t (0, 0) h]; exact hv
end Go.Proofs.YtaclfphflhjpoaaGreatDoor
