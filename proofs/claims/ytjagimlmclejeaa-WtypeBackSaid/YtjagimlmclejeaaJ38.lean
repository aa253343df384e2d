/-
  A box of what came in; answers.
-/
import Derived.Test.YtjagimlmclejeaaJ18
import Derived.Test.YtjagimlmclejeaaJ20
namespace Go.Proofs.Ytjagimlmclejeaa
open Go.RowKit Go.Proofs.Leb Go.Proofs.Own
set_option maxRecDepth 100000

/-- a box of what came in -/
def Bx1 (w : World) (cs : Array Value) (T : TypeId) (w' : World) : Prop := New w w' ∧ w'.heap[w.heap.size]? = some (.cells cs T)
theorem Bx1.mk0 {w : World} {cs : Array Value} {T : TypeId} : Bx1 w cs T (w.alloc (.cells cs T)) := ⟨(Upd.refl _ _).alloc _, hp_new rfl⟩
theorem Bx1.new {w a b : World} {cs : Array Value} {T : TypeId} (h : Bx1 w cs T a) (k : New a b) : Bx1 w cs T b := ⟨New.trans h.1 k, hp1 h.2 k⟩
theorem Bx1.at {w a : World} {cs : Array Value} {T : TypeId} (h : Bx1 w cs T a) (i : Nat) {v : Value} (hv : cs[i]? = some v) : a.cell? ⟨w.heap.size, i, none⟩ = some v := cellAt h.2 i hv
theorem same_new {q : Prop} {b : Bool} (hb : b = true ↔ q) {w : World} {e : Ending} {w' : World} (h : SameP q w e w') : IsNew b w e w' := by
  obtain ⟨c, rfl, hc, hn⟩ := h
  have : c = b := by
    cases c <;> cases b <;> simp_all
  subst this
  exact ⟨rfl, hn⟩
theorem take_all {α : Type} {xs ys : List α} (hl : xs.length = ys.length) (h : xs.take xs.length = ys.take xs.length) : xs = ys := by
  rw [hl] at h
  rw [← hl, List.take_length, hl, List.take_length] at h
  exact h
theorem tl_iff {s t : ByteArray} : s.toList = t.toList ↔ s = t := ⟨tl_inj, fun h => by rw [h]⟩
theorem iteB {p : Prop} [Decidable p] {b : Bool} {w : World} {X : Result Next} (h : X = Result.ok (Next.value (Value.bool b)) w) : (if p then X else Result.ok (Next.value (Value.bool true)) w) = Result.ok (Next.value (Value.bool (!decide p || b))) w := by
  by_cases hp : p
  · rw [if_pos hp, h, decide_eq_true hp]; rfl
  · rw [if_neg hp, decide_eq_false hp]; rfl
end Go.Proofs.Ytjagimlmclejeaa
