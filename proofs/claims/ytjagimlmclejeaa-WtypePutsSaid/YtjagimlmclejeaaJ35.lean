/-
  A region that draws its order, by an invariant: each operation is walked once, whatever came up ahead of it. Generic.
-/
import Derived.Test.YtjagimlmclejeaaJ5
import Derived.Deep.RegionHeld
import Derived.Deep.RegionHeld3
namespace Go.Proofs.Own
open Go
section
variable {P : Program} {ops : Array Oper} {Q : Exit → Act → World → Prop} {md : Region.Mode} {S : World → Prop}
/-- what an operation waits for -/
def depsB (md : Region.Mode) (ops : Array Oper) (i : Nat) : List Nat := match ops[i]? with
  | none => []
  | some o => (o.after.toList.filter (Region.binds md)).map (·.on)
/-- J n: n of the operations that may come up in any order have not come up yet; behind all of them N more are left -/
theorem wpAnyH_inv {J : Nat → Array Bool → Act → World → Prop} (N : Nat)
    (h0 : ∀ l a w, J 0 l a w → wpAnyH P md ops Q S N l a w)
    (h1 : ∀ n l a w, J (n + 1) l a w → ∃ i, i < ops.size ∧ l.getD i true = false ∧ (depsB md ops i).all (fun d => l.getD d false) = true)
    (hs : ∀ n l a w, J (n + 1) l a w → ∀ i, i < ops.size → l.getD i true = false → (∀ d, (depsB md ops i).contains d = true → l.getD d false = true) → wpOp P ops Q i (fun a' w' => S w' ∧ J n (l.setIfInBounds i true) a' w') a w) :
    ∀ n l a w, J n l a w → wpAnyH P md ops Q S (N + n) l a w
  | 0, l, a, w, h => h0 l a w h
  | n + 1, l, a, w, h => by
    refine ⟨fun hr => ?_, fun i hi => ?_⟩
    · obtain ⟨i, hi, hl, hd⟩ := h1 n l a w h
      have hm : i ∈ Region.ready md ops l := mem_ready.2 ⟨hl, ops[i], Array.getElem?_eq_getElem hi, fun e he hb => by
        unfold depsB at hd
        rw [Array.getElem?_eq_getElem hi] at hd
        simp only [List.all_map, List.all_eq_true, List.mem_filter] at hd
        exact hd e ⟨by simpa using he, hb⟩⟩
      rw [hr] at hm
      cases hm
    · obtain ⟨h2, o, ho, hall⟩ := mem_ready.1 hi
      refine wpOp_mono (fun a' w' hh => ⟨hh.1, wpAnyH_inv N h0 h1 hs n _ a' w' hh.2⟩) (hs n l a w h i (Array.getElem?_eq_some_iff.1 ho).1 h2 fun d hd => ?_)
      unfold depsB at hd
      rw [ho] at hd
      simp only [List.contains_iff_mem, List.mem_map, List.mem_filter] at hd
      obtain ⟨e, ⟨he, hb⟩, rfl⟩ := hd
      exact hall e (by simpa using he) hb
end
end Go.Proofs.Own
