/-
  Blocks of one cell.
-/
import Derived.Test.YtkfohickmdkplaaJ2
namespace Go.Proofs.Own
open Go Go.RowKit
theorem Upd.thenNew {S : Nat → Prop} {a b c : World} (h : Upd S a b) (k : New b c) : Upd S a c := h.trans (New.upd k) (T := S) (fun _ _ h => h)
/-- a block of one cell -/
def One1 (w : World) (g : Nat) (v : Value) : Prop := ∃ t, w.heap[g]? = some (.cells #[v] t)
theorem One1.lt {w : World} {g : Nat} {v : Value} (h : One1 w g v) : g < w.heap.size := by obtain ⟨t, h⟩ := h; exact (Array.getElem?_eq_some_iff.1 h).1
theorem One1.c {w : World} {g : Nat} {v : Value} (h : One1 w g v) : w.cell? ⟨g, 0, none⟩ = some v := by obtain ⟨t, h⟩ := h; rw [cell_of_row _ g 0 _ t (0, 0) h]; rfl
theorem One1.f {w : World} {g : Nat} {v : Value} (h : One1 w g v) : w.frozen? ⟨g, 0, none⟩ = false := by obtain ⟨t, h⟩ := h; simp [World.frozen?, h]
theorem One1.mk {w : World} {v : Value} {t : TypeId} {k : Nat} (h : k = w.heap.size) : One1 (w.alloc (.cells #[v] t)) k v := ⟨t, hp_new h⟩
theorem One1.upd {S : Nat → Prop} {w w' : World} {g : Nat} {v : Value} (h : One1 w g v) (hu : Upd S w w') (hn : ¬ S g) : One1 w' g v := by
  have hl := h.lt
  obtain ⟨t, h⟩ := h
  exact ⟨t, (hu.block g hl hn).trans h⟩
theorem One1.new {w w' : World} {g : Nat} {v : Value} (h : One1 w g v) (hn : New w w') : One1 w' g v := h.upd hn (fun h => h)
theorem One1.put {w : World} {g : Nat} {u v : Value} (h : One1 w g u) : One1 (w.setCell ⟨g, 0, none⟩ v) g v := by
  obtain ⟨t, h⟩ := h
  exact ⟨t, by simp [World.setCell, Array.getElem?_modify, h]⟩
theorem One1.other {w : World} {g : Nat} {p : Addr} {u v : Value} (h : One1 w g u) (hn : g ≠ p.block) : One1 (w.setCell p v) g u := by
  obtain ⟨t, h⟩ := h
  exact ⟨t, by rw [Below.heap_setCell _ _ _ _ hn]; exact h⟩
theorem One1.drew {w : World} {g : Nat} {v : Value} (h : One1 w g v) : One1 w.drew g v := h
theorem One1.push {w : World} {g : Nat} {v : Value} (h : One1 w g v) (o : Obj) : One1 (w.alloc o) g v := h.new ((Upd.refl _ _).alloc _)
theorem alloc1Step {K : Act → World → Prop} {a : Act} {S W : World} {x : Value} {t : TypeId} (hn : New S W)
    (h : ∀ W2, New W W2 → New S W2 → One1 W2 W.heap.size x → K a W2) : K a (W.alloc (.cells #[x] t)) :=
  h _ ((Upd.refl _ _).alloc _) (hn.alloc _) (.mk rfl)
theorem store1Step {K : Act → World → Prop} {a : Act} {S W : World} {g : Nat} {u x : Value} (hn : New S W) (hz : One1 W g u) (hf : S.heap.size ≤ g)
    (h : ∀ W2, New S W2 → One1 W2 g x → (∀ g' v, g' ≠ g → One1 W g' v → One1 W2 g' v) → K a W2) : K a (W.setCell ⟨g, 0, none⟩ x) :=
  h _ (hn.setCell (.inl hf) _) hz.put (fun g' v hne hv => hv.other hne)
end Go.Proofs.Own
