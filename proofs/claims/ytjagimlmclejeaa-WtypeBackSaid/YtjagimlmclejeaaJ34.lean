/-
  A struct of one-cell fields that came in, opened: any number of fields.
-/
import Derived.Test.YtjagimlmclejeaaChecked
import Derived.OpenShut
import Derived.ChangeOld
import Derived.Lib.SmallJoins
namespace Go.Proofs.Ytjagimlmclejeaa
open Go.ChangeShapes Go.WideShapes Go.ChangeAt Go.RowKit Go.Deep Go.WideElems Go.Maps Go.Joins

theorem open_aggs {H : Type} {enc : TypeId × Value → H} {P : Program} {w : World} {base : Nat} {spare : Nat → Bool} {held : Bool} {r : Reach} {b0 : Nat} {t : TypeId} {fs : Array Field} {v : Value} {d : DataW H} {p : List MemPlace}
    (hs : P.underlying t = some (.struct fs)) (hone : oneCellFields P fs = true) (hC : P.cellsOf t = fs.size) (hv : Value.okWide P w r b0 t v) (h : DataW.Trod enc P w base spare held t v d p) :
    ∃ (vs : Array Value) (ys : List (DataW H × List MemPlace)) (n : Nat), v = .agg vs ∧ vs.size = fs.size ∧ ys.length = fs.size ∧ d = .agg (ys.map (·.1)) ∧ p = ys.flatMap (·.2) ∧
      ∀ (i : Nat) (f : Field) (u : Value), fs[i]? = some f → vs[i]? = some u → ∃ y, ys[i]? = some y ∧ DataW.trod enc P w base spare held n f.type [u] = some y := by
  obtain ⟨cs, rfl, hsz⟩ := okWide_struct hs hv
  obtain ⟨fuel, hf⟩ := h
  obtain ⟨xs, n, _, hx, hl, hlen, hg⟩ := DataW.trod_struct hs hf
  refine ⟨cs, xs, n, rfl, hsz.trans hC, hlen, (Prod.mk.inj hx).1, (Prod.mk.inj hx).2, fun i f u hi hu => ?_⟩
  have := hg i f hi
  obtain ⟨o, k⟩ := hone_of hone i f hi
  rw [o, k] at this
  have hi' : i < xs.length := by rw [hlen]; exact (Array.getElem?_eq_some_iff.1 hi).1
  have hu' : cs.toList[i]? = some u := by simpa using hu
  obtain ⟨hl', hu2⟩ := List.getElem?_eq_some_iff.1 hu'
  refine ⟨xs[i], List.getElem?_eq_getElem hi', ?_⟩
  rw [← List.getElem?_eq_getElem hi', ← this]
  congr 1
  show [u] = List.take 1 (List.drop i cs.toList)
  rw [List.drop_eq_getElem_cons hl', hu2]
  rfl
theorem slice_form {H : Type} {enc : TypeId × Value → H} {P : Program} {w : World} {base : Nat} {spare : Nat → Bool} {held : Bool} {t e : TypeId} {fuel : Nat} {cs : List Value} {x : DataW H × List MemPlace} (ht : P.underlying t = some (.slice e))
    (h : DataW.trod enc P w base spare held fuel t cs = some x) : ∃ a len cap, cs = [.slice a len cap] := by
  rcases DataW.trod_slice ht h with ⟨h, _⟩ | ⟨a, len, cap, _, _, _, _, h, _⟩
  · exact ⟨none, 0, 0, h⟩
  · exact ⟨some a, len, cap, h⟩
theorem array12 {α : Type} {vs : Array α} (h : vs.size = 12) : ∃ a b c d e f g h' i j k l, vs = #[a, b, c, d, e, f, g, h', i, j, k, l] := by
  obtain ⟨l⟩ := vs
  match l, h with
  | [a, b, c, d, e, f, g, h', i, j, k, l], _ => exact ⟨a, b, c, d, e, f, g, h', i, j, k, l, rfl⟩
end Go.Proofs.Ytjagimlmclejeaa
