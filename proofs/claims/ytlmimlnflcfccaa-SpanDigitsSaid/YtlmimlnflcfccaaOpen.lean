/-
  Parameters opened: arrays of three numbers, slices of pairs.
-/
import Derived.Test.YtlmimlnflcfccaaSpnF
import Derived.Test.YtlmimlnflcfccaaFrm
import Derived.Lib.SmallJoins
import Derived.Deep.SlicePairs
namespace Go.Proofs.Ytlmimlnflcfccaa
open Go.RowKit Go.Proofs.Own Go.ChangeShapes Go.WideShapes Go.Deep

section
variable {H : Type} {enc : TypeId × Value → H} {P : Program} {w : World} {base : Nat} {spare : Nat → Bool} {held : Bool}

theorem okWide_arr {r : Reach} {b0 : Nat} {t e : TypeId} {n : Nat} {v : Value} (ht : P.underlying t = some (.array n e)) (h : Value.okWide P w r b0 t v) : ∃ cs, v = .agg cs ∧ cs.size = P.cellsOf t := by
  simp only [Value.okWide, ht] at h
  obtain ⟨cs, h1, h2, _⟩ := h
  exact ⟨cs, h1, h2⟩

theorem open_nums3 {r : Reach} {b0 : Nat} {t e : TypeId} {k : IntKind} {v : Value} {d : DataW H} {p : List MemPlace} (ht : P.underlying t = some (.array 3 e)) (he : P.underlying e = some (.int k)) (hC : P.cellsOf t = 3) (hE : P.cellsOf e = 1)
    (hv : Value.okWide P w r b0 t v) (h : DataW.Trod enc P w base spare held t v d p) :
    ∃ a b c : Int, v = .agg #[.int k a, .int k b, .int k c] ∧ (Lit.int k a).wf = true ∧ (Lit.int k b).wf = true ∧ (Lit.int k c).wf = true := by
  obtain ⟨cs, rfl, hsz⟩ := okWide_arr ht hv
  obtain ⟨c0, c1, c2, rfl⟩ := Go.Joins.array3 (hsz.trans hC)
  obtain ⟨fuel, hf⟩ := h
  obtain ⟨xs, m, _, _, _, hlen, hi⟩ := DataW.trod_array ht hf
  have hx : ∀ i, i < 3 → ∃ y, xs[i]? = some y := fun i h => ⟨_, List.getElem?_eq_getElem (by omega)⟩
  obtain ⟨y0, e0⟩ := hx 0 (by omega)
  obtain ⟨y1, e1⟩ := hx 1 (by omega)
  obtain ⟨y2, e2⟩ := hx 2 (by omega)
  have h0 := hi 0 (by omega)
  have h1 := hi 1 (by omega)
  have h2 := hi 2 (by omega)
  rw [hE, e0] at h0
  rw [hE, e1] at h1
  rw [hE, e2] at h2
  obtain ⟨a, ha, _, wa⟩ := DataW.trod_int he h0
  obtain ⟨b, hb, _, wb⟩ := DataW.trod_int he h1
  obtain ⟨c, hc, _, wc⟩ := DataW.trod_int he h2
  simp [Value.cells] at ha hb hc
  subst ha; subst hb; subst hc
  exact ⟨a, b, c, rfl, wa, wb, wc⟩

def num (v : Value) : Nat := match v with | .int _ n => n.toNat | _ => 0

theorem rdpOf {t e : TypeId} {f0 f1 : Field} {a : Option Addr} {len cap : Nat} {d : DataW H} {p : List MemPlace} (ht : P.underlying t = some (.slice e)) (he : P.underlying e = some (.struct #[f0, f1]))
    (ce : P.cellsOf e = 2) (o0 : f0.offset = 0) (o1 : f1.offset = 1) (c0 : P.cellsOf f0.type = 1) (c1 : P.cellsOf f1.type = 1) (k0 : P.underlying f0.type = some (.int .u64)) (k1 : P.underlying f1.type = some (.int .u64))
    (h : DataW.Trod enc P w base spare held t (.slice a len cap) d p) :
    ∃ rs : List (Nat × Nat), RdP w (.slice a len cap) rs ∧ rs.length = len ∧ len ≤ maxLen ∧ ∀ i (h : i < rs.length), rs[i].1 < 18446744073709551616 ∧ rs[i].2 < 18446744073709551616 := by
  obtain ⟨fuel, hf⟩ := h
  rcases open_slice_pairs ht he ce o0 o1 c0 c1 hf with ⟨hcs, _⟩ | ⟨x, l, c, m, n, V0, V1, D0, D1, P0, P1, hcs, _, hl, hm, hmm, _, hx⟩
  · simp [Value.cells] at hcs
    obtain ⟨rfl, rfl, rfl⟩ := hcs
    exact ⟨[], ⟨none, 0, rfl, Nat.le_refl _, fun _ => rfl, fun h => absurd rfl h⟩, rfl, Nat.zero_le _, fun i h => absurd h (Nat.not_lt_zero _)⟩
  · simp [Value.cells] at hcs
    obtain ⟨rfl, rfl, rfl⟩ := hcs
    have hm2 : len ≤ m := by rw [hmm]; split <;> omega
    have hv : ∀ i, i < len → ∃ p q : Nat, V0 i = .int .u64 p ∧ V1 i = .int .u64 q ∧ p < 18446744073709551616 ∧ q < 18446744073709551616 := by
      intro i hi
      obtain ⟨_, _, t0, t1⟩ := hx i (by omega)
      obtain ⟨p, e0, _, w0⟩ := DataW.trod_int k0 t0
      obtain ⟨q, e1, _, w1⟩ := DataW.trod_int k1 t1
      have b0 := wf_u64 w0
      have b1 := wf_u64 w1
      simp at e0 e1
      exact ⟨p.toNat, q.toNat, by rw [e0]; congr 1; omega, by rw [e1]; congr 1; omega, by omega, by omega⟩
    refine ⟨(List.range len).map fun i => (num (V0 i), num (V1 i)), ⟨some x, cap, by simp, by simp; exact hl, (fun h => by cases h), fun hne => ?_⟩, by simp, by omega, ?_⟩
    · have h0 : 0 < len := by
        rcases Nat.eq_zero_or_pos len with h | h
        · subst h; simp at hne
        · exact h
      obtain ⟨b, o, s⟩ := x
      have hc := (hx 0 (by omega)).1
      have hs : s = none := by simpa [Addr.add] using World.cell?_spot hc
      subst hs
      refine ⟨b, o, rfl, fun i hi => ?_⟩
      have hi' : i < len := by simpa using hi
      obtain ⟨g0, g1, _, _⟩ := hx i (by omega)
      obtain ⟨p, q, e0, e1, _, _⟩ := hv i hi'
      rw [Addr.add_lit] at g0 g1
      refine ⟨?_, ?_⟩
      · rw [g0, e0]; simp [e0, num]
      · rw [Nat.add_assoc, g1, e1]; simp [e1, num]
    · intro i hi
      have hi' : i < len := by simpa using hi
      obtain ⟨p, q, e0, e1, b0, b1⟩ := hv i hi'
      simp [e0, e1, num]
      exact ⟨b0, b1⟩
end
end Go.Proofs.Ytlmimlnflcfccaa
