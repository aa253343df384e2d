/-
  A text's bytes, in memory of their own.
-/
import Derived.Test.YtjagimlmclejeaaJ21
import Derived.Test.YtjagimlmclejeaaJ4
namespace Go.Proofs.Ytjagimlmclejeaa
open Go.RowKit Go.Proofs.Leb Go.Proofs.Own
set_option maxRecDepth 100000

theorem str_bytesF (w : World) (s : ByteArray) : ∃ v' w', (convert 9 50 (.string s)).run Try.prog w = .ok v' w' ∧ Rd w' v' (lb s) ∧ New w w' ∧ Fresh w v' := by
  refine ⟨_, _, run_bytes_of_string w 9 50 5 s Try.underlying9 Try.underlying50 Try.underlying5, ?_, (Upd.refl _ _).drew.alloc _, fun k hk => Nat.le_of_eq (Option.some.inj hk)⟩
  rw [← lb_len]
  refine ⟨_, _, rfl, ?_, (fun h => by cases h), fun _ => ⟨w.heap.size, 0, rfl, fun i hi => ?_⟩⟩
  · exact grownCap_ge _ _ _ _
  · have h2 := heap_alloc_new w.drew (.cells (bytesRow s (grownCap w (lb s).length 0 5)) 5 ((bytesRow s (grownCap w (lb s).length 0 5)).size, (bytesRow s (grownCap w (lb s).length 0 5)).size + 1))
    have h3 : w.drew.heap.size = w.heap.size := rfl
    rw [h3] at h2
    rw [cell_of_row _ w.heap.size (0 + i) _ _ _ h2, Nat.zero_add]
    have hi' : i < s.data.size := by rw [lb_len] at hi; exact hi
    unfold bytesRow
    rw [Array.getElem?_append_left (by simpa using hi')]
    simp only [Array.getElem?_map, cb, lb]
    rw [Array.getElem?_eq_getElem hi']
    rfl
theorem put1Step {K : Act → World → Prop} {a : Act} {W : World} {g : Nat} {u x : Value} (hz : One1 W g u) (h : ∀ W2, Upd (fun k => k = g) W W2 → One1 W2 g x → K a W2) : K a (W.setCell ⟨g, 0, none⟩ x) :=
  h _ ((Upd.refl (fun k => k = g) W).setCell (p := ⟨g, 0, none⟩) (.inr rfl) x) hz.put
/-- likewise, as an operation of a region that draws its order -/
theorem upon_str {o : Oper} {a : Act} {K : Act → World → Prop} {Q : Exit → Act → World → Prop} {W : World} {s : ByteArray} (h : ∀ v' w', Rd w' v' (lb s) → New W w' → Fresh W v' → K (a.put o.dst v') w') :
    Oper.upon Try.prog o a K Q ((Sem.run Try.prog (convert 9 50 (.string s)) W).andThen fun a w' => Result.ok (Next.value a) w') := by
  obtain ⟨v', w', hr, h1, h2, h3⟩ := str_bytesF W s
  rw [hr]
  exact h v' w' h1 h2 h3
end Go.Proofs.Ytjagimlmclejeaa
