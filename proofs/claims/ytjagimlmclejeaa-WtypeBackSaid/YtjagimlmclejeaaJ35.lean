/-
  What came in, opened: structs within structs, slices of whatever elements; how much memory it takes up.
-/
import Derived.Test.YtjagimlmclejeaaJ33
import Derived.Test.YtjagimlmclejeaaJ34
import Derived.Test.YtjagimlmclejeaaJ19
import Derived.SizedLaws
import Derived.Deep.SlicePairs
namespace Go.Proofs.Ytjagimlmclejeaa
open Go.RowKit Go.Proofs.Own Go.ChangeShapes Go.WideShapes Go.Deep

/-- no part of a datum takes up more than the reach -/
def Light {H : Type} (P : Program) (t : TypeId) (d : DataW H) : Prop := ∀ n ∈ d.weights P t, n ≤ reachBytes
section
variable {H : Type} {P : Program}
theorem Light.arg {ts : List TypeId} {ds : List (DataW H)} (h : (DataW.weightsEach P ts ds).all (· ≤ reachBytes) = true) {j : Nat} {t : TypeId} {d : DataW H} (ht : ts[j]? = some t) (hd : ds[j]? = some d) : Light P t d := fun n hn => by
  have := List.all_eq_true.1 h n (DataW.weights_mem_each ht hd n hn)
  simpa using this
theorem Light.field {t : TypeId} {fs : Array Field} {parts : List (DataW H)} (hu : P.underlying t = some (.struct fs)) (h : Light P t (.agg parts)) {j : Nat} {f : Field} {d : DataW H} (hf : fs[j]? = some f) (hd : parts[j]? = some d) : Light P f.type d := fun n hn => by
  refine h n ?_
  unfold DataW.weights
  rw [hu]
  exact DataW.weights_mem_each (j := j) (by simp [hf]) hd n hn
theorem mem_all {e : TypeId} : ∀ {ds : List (DataW H)} {d : DataW H}, d ∈ ds → ∀ n ∈ d.weights P e, n ∈ DataW.weightsAll P e ds
  | d0 :: ds, d, h, n, hn => by
    unfold DataW.weightsAll
    rw [List.mem_append]
    rcases List.mem_cons.1 h with rfl | h
    · exact .inl hn
    · exact .inr (mem_all h n hn)
theorem Light.elem {t e : TypeId} {elems spare : List (DataW H)} (hu : P.underlying t = some (.slice e)) (h : Light P t (.slice elems spare)) : (elems.length + spare.length) * P.bytesOf e ≤ reachBytes ∧ ∀ d ∈ elems, Light P e d := by
  unfold Light DataW.weights at h
  rw [hu] at h
  refine ⟨h _ (by simp), fun d hd n hn => h n ?_⟩
  simp only [List.mem_cons, List.mem_append]
  exact .inr (.inl (mem_all hd n hn))
theorem Light.str {t : TypeId} {bytes : List UInt8} (h : Light (H := H) P t (.lit (.string bytes))) : bytes.length ≤ reachBytes := h _ (by simp [DataW.weights])
end
section
variable {H : Type} {enc : TypeId × Value → H} {P : Program} {w : World} {base : Nat} {spare : Nat → Bool} {held : Bool}
/-- a field's cells -/
theorem part {t : TypeId} {fs : Array Field} {fuel : Nat} {cs : List Value} {x : DataW H × List MemPlace} (hu : P.underlying t = some (.struct fs)) (h : DataW.trod enc P w base spare held fuel t cs = some x) (hL : Light P t x.1) (i : Nat) {f : Field} (hf : fs[i]? = some f) :
    ∃ n y, DataW.trod enc P w base spare held n f.type ((cs.drop f.offset).take (P.cellsOf f.type)) = some y ∧ Light P f.type y.1 := by
  obtain ⟨xs, n, _, rfl, _, hlen, hg⟩ := DataW.trod_struct hu h
  have hi : i < xs.length := by rw [hlen]; exact (Array.getElem?_eq_some_iff.1 hf).1
  refine ⟨n, xs[i], (hg i f hf).trans (List.getElem?_eq_getElem hi), ?_⟩
  exact Light.field hu hL hf (by rw [List.getElem?_map, List.getElem?_eq_getElem hi]; rfl)
theorem part1 {t : TypeId} {fs : Array Field} {fuel : Nat} {cs : List Value} {x : DataW H × List MemPlace} (hu : P.underlying t = some (.struct fs)) (h : DataW.trod enc P w base spare held fuel t cs = some x) (hL : Light P t x.1) (i : Nat) {f : Field} (hf : fs[i]? = some f)
    (hc : P.cellsOf f.type = 1) {u : Value} (hv : cs[f.offset]? = some u) : ∃ n y, DataW.trod enc P w base spare held n f.type [u] = some y ∧ Light P f.type y.1 := by
  obtain ⟨n, y, g, l⟩ := part hu h hL i hf
  rw [hc] at g
  obtain ⟨hl, hu2⟩ := List.getElem?_eq_some_iff.1 hv
  rw [List.drop_eq_getElem_cons hl, hu2] at g
  exact ⟨n, y, g, l⟩
theorem partN {t : TypeId} {fs : Array Field} {fuel : Nat} {cs : List Value} {x : DataW H × List MemPlace} (hu : P.underlying t = some (.struct fs)) (h : DataW.trod enc P w base spare held fuel t cs = some x) (hL : Light P t x.1) (i : Nat) {f : Field} (hf : fs[i]? = some f)
    {k : Nat} (hc : P.cellsOf f.type = k) {ds : List Value} (hv : (cs.drop f.offset).take k = ds) : ∃ n y, DataW.trod enc P w base spare held n f.type ds = some y ∧ Light P f.type y.1 := by
  obtain ⟨n, y, g, l⟩ := part hu h hL i hf
  rw [hc, hv] at g
  exact ⟨n, y, g, l⟩
theorem struct_len {t : TypeId} {fs : Array Field} {fuel : Nat} {cs : List Value} {x : DataW H × List MemPlace} (hu : P.underlying t = some (.struct fs)) (h : DataW.trod enc P w base spare held fuel t cs = some x) : cs.length = P.cellsOf t := by
  obtain ⟨xs, n, _, rfl, hl, _, _⟩ := DataW.trod_struct hu h
  exact hl
/-- a slice of whatever elements -/
theorem rdnOf {α : Type} [Inhabited α] (E : ERep α) (Q : α → Prop) {t e : TypeId} {n fuel : Nat} {cs : List Value} {y : DataW H × List MemPlace} (ht : P.underlying t = some (.slice e)) (ce : P.cellsOf e = n) (hn : 0 < n) (hb : 1 ≤ P.bytesOf e)
    (h : DataW.trod enc P w base spare held fuel t cs = some y) (hL : Light P t y.1)
    (hf : ∀ fuel cs x, DataW.trod enc P w base spare held fuel e cs = some x → cs.length = n → Light P e x.1 → ∃ b : α, E w (fun _ => True) b cs ∧ Q b) :
    ∃ v, cs = [v] ∧ ∃ xs : List α, RdE n E w (fun _ => True) v xs ∧ xs.length ≤ reachBytes ∧ ∀ x ∈ xs, Q x := by
  rcases open_slice ht h with ⟨rfl, _⟩ | ⟨a, len, cap, m, k, D, Pl, rfl, _, hl, hm, hmm, hy, hx⟩
  · exact ⟨_, rfl, [], RdE.nil, Nat.zero_le _, fun x h => by cases h⟩
  · have hm2 : len ≤ m := by rw [hmm]; split <;> omega
    rw [hy] at hL
    obtain ⟨hsz, hel⟩ := Light.elem ht hL
    have hlen : len ≤ reachBytes := by
      simp only [List.length_map, List.length_range] at hsz
      have : (len + (m - len)) * 1 ≤ (len + (m - len)) * P.bytesOf e := Nat.mul_le_mul_left _ hb
      omega
    have each : ∀ i, i < len → ∃ q : α × List Value, w.cells? base (a.add (i * P.cellsOf e)) (P.cellsOf e) = some q.2 ∧ E w (fun _ => True) q.1 q.2 ∧ Q q.1 := by
      intro i hi
      obtain ⟨cs', h1, h2⟩ := hx i (by omega)
      have hll := (World.cells?_some h1).2.1
      obtain ⟨b, hb1, hb2⟩ := hf _ _ _ h2 (by rw [hll, ce]) (hel _ (List.mem_map.2 ⟨i, List.mem_range.2 hi, rfl⟩))
      exact ⟨(b, cs'), h1, hb1, hb2⟩
    obtain ⟨q, hq⟩ := choose_lt each
    refine ⟨_, rfl, (List.range len).map fun i => (q i).1, ⟨some a, cap, by simp, by simp; exact hl, (fun h => by cases h), fun _ _ => trivial, fun hne => ?_⟩, by simpa using hlen, ?_⟩
    · have h0 : 0 < len := by
        rcases Nat.eq_zero_or_pos len with h | h
        · subst h; simp at hne
        · exact h
      obtain ⟨b, o, s⟩ := a
      obtain ⟨_, q1, q2⟩ := World.cells?_some (hq 0 h0).1
      obtain ⟨c0, hc0⟩ : ∃ c0, (q 0).2[0]? = some c0 := by
        rw [List.getElem?_eq_getElem (by omega)]
        exact ⟨_, rfl⟩
      have hc := q2 0 (by omega)
      rw [hc0] at hc
      have hs : s = none := by simpa [Addr.add] using World.cell?_spot hc
      subst hs
      refine ⟨b, o, rfl, fun i hi => ?_⟩
      have hi' : i < len := by simpa using hi
      obtain ⟨g0, g1, g2⟩ := hq i hi'
      obtain ⟨_, r1, r2⟩ := World.cells?_some g0
      refine ⟨(q i).2, by omega, by simpa using g1, fun j u hj => ?_⟩
      have hj' : j < n := by
        have := (List.getElem?_eq_some_iff.1 hj).1
        omega
      have := r2 j (by omega)
      rw [Addr.add_lit, Addr.add_lit, ce, hj] at this
      exact this
    · intro z hz
      obtain ⟨i, hi, rfl⟩ := List.mem_map.1 hz
      exact (hq i (List.mem_range.1 hi)).2.2
theorem reach_le : reachBytes ≤ 140737488355328 := by have := reachBytes_lt; omega
end
end Go.Proofs.Ytjagimlmclejeaa
