/-
  A whole struct stored, as a step of a region that draws its order. Generic.
-/
import Derived.Test.YtjagimlmclejeaaJ4
namespace Go.Proofs.Own
open Go Go.RowKit
theorem run_setRowT {w : World} {g : Nat} {old cs : Array Value} {t : TypeId} (hg : w.heap[g]? = some (.cells old t)) : Upd (fun k => k = g) w (w.setRow g cs) ∧ (w.setRow g cs).heap[g]? = some (.cells cs t) := by
  refine ⟨⟨rfl, rfl, rfl, ?_, ?_⟩, setRow_heap w g old cs t (0, 0) hg⟩
  · unfold World.setRow
    simp
  · intro k _ hn
    unfold World.setRow
    simp only [Array.getElem?_modify]
    rw [if_neg (fun e => hn e.symm)]
theorem step_storeT {P : Program} {ops : Array Oper} {o : Oper} {a : Act} {Q : Exit → Act → World → Prop} {w : World} {K : Act → World → Prop} {E : Prop} (ty : TypeId) (x y : Operand) (hwt : Region.wanted o (yielded ops a.tmps) = true) (ho : o.op = .store ty x y)
    (g : Nat) (cs : Array Value) (hx : a.eval x = .pointer (some ⟨g, 0, none⟩)) (hy : a.eval y = .agg cs)
    (t : TypeId) (old : Array Value) (hg : w.heap[g]? = some (.cells old t (0, 0))) (hi : (P.info? ty).map (·.size) = some cs.size)
    (hold : old.size = cs.size) (h1 : cs.all (·.oneCell') = true)
    (h : K (a.put o.dst undef) (w.setRow g cs)) : if Region.wanted o (yielded ops a.tmps) = true then Oper.wp P o a w K Q else E := by
  rw [if_pos hwt]
  exact wp_store_row ty x y ho g cs hx hy t old hg hi hold h1 h
theorem allocRow {K : Act → World → Prop} {a : Act} {S W : World} {cs : Array Value} {t : TypeId} (hn : New S W)
    (h : ∀ W2, New W W2 → New S W2 → W2.heap[W.heap.size]? = some (.cells cs t) → K a W2) : K a (W.alloc (.cells cs t)) :=
  h _ ((Upd.refl _ _).alloc _) (hn.alloc _) (hp_new rfl)
end Go.Proofs.Own
