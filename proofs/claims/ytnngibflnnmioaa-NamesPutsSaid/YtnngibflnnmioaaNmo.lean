/-
  Names that came in, opened; how much memory they take up.
-/
import Derived.Test.YtnngibflnnmioaaNmn
import Derived.Test.YtnngibflnnmioaaOpn
import Derived.Test.YtnngibflnnmioaaFrm
import Derived.SizedLaws
import Derived.Deep.SlicePairs
namespace Go.Proofs.Ytnngibflnnmioaa
open Go.RowKit Go.Proofs.Own Go.ChangeShapes Go.WideShapes Go.Deep

/-- no part of a datum takes up more than the reach -/
def Light {H : Type} (P : Program) (t : TypeId) (d : DataW H) : Prop := ∀ n ∈ d.weights P t, n ≤ reachBytes
section
variable {H : Type} {P : Program}
theorem Light.arg {ts : List TypeId} {ds : List (DataW H)} (h : (DataW.weightsEach P ts ds).all (· ≤ reachBytes) = true) {j : Nat} {t : TypeId} {d : DataW H} (ht : ts[j]? = some t) (hd : ds[j]? = some d) : Light P t d := fun n hn => by
  have := List.all_eq_true.1 h n (DataW.weights_mem_each ht hd n hn)
  simpa using this
theorem Light.field {t : TypeId} {fs : Array Field} {parts : List (DataW H)} (hu : P.underlying t = some (.struct fs)) (h : Light P t (.agg parts)) {j : Nat} {f : Field} {d : DataW H} (hf : fs[j]? = some f) (hd : parts[j]? = some d) : Light P f.type d := fun n hn => by
  refine h n ?_
  unfold DataW.weights
  rw [hu]
  exact DataW.weights_mem_each (j := j) (by simp [hf]) hd n hn
theorem mem_all {e : TypeId} : ∀ {ds : List (DataW H)} {d : DataW H}, d ∈ ds → ∀ n ∈ d.weights P e, n ∈ DataW.weightsAll P e ds
  | d0 :: ds, d, h, n, hn => by
    unfold DataW.weightsAll
    rw [List.mem_append]
    rcases List.mem_cons.1 h with rfl | h
    · exact .inl hn
    · exact .inr (mem_all h n hn)
theorem Light.elem {t e : TypeId} {elems spare : List (DataW H)} (hu : P.underlying t = some (.slice e)) (h : Light P t (.slice elems spare)) : (elems.length + spare.length) * P.bytesOf e ≤ reachBytes ∧ ∀ d ∈ elems, Light P e d := by
  unfold Light DataW.weights at h
  rw [hu] at h
  refine ⟨h _ (by simp), fun d hd n hn => h n ?_⟩
  simp only [List.mem_cons, List.mem_append]
  exact .inr (.inl (mem_all hd n hn))
theorem Light.str {t : TypeId} {bytes : List UInt8} (h : Light (H := H) P t (.lit (.string bytes))) : bytes.length ≤ reachBytes := h _ (by simp [DataW.weights])
end
section
variable {H : Type} {enc : TypeId × Value → H} {P : Program} {w : World} {base : Nat} {spare : Nat → Bool} {held : Bool}
theorem rdeOf {β : Type} [Inhabited β] (F : FRep β) (Q : β → Prop) {t e : TypeId} {f0 f1 : Field} {fuel : Nat} {v : Value} {y : DataW H × List MemPlace} (ht : P.underlying t = some (.slice e)) (he : P.underlying e = some (.struct #[f0, f1]))
    (ce : P.cellsOf e = 2) (o0 : f0.offset = 0) (o1 : f1.offset = 1) (c0 : P.cellsOf f0.type = 1) (c1 : P.cellsOf f1.type = 1) (hb : 1 ≤ P.bytesOf e) (k0 : P.underlying f0.type = some (.int .u32))
    (h : DataW.trod enc P w base spare held fuel t [v] = some y) (hL : Light P t y.1)
    (hf : ∀ fuel u x, DataW.trod enc P w base spare held fuel f1.type [u] = some x → Light P f1.type x.1 → ∃ b : β, F w (fun _ => True) u b ∧ Q b) :
    ∃ xs : List (Nat × β), RdE 2 (E2 F) w (fun _ => True) v xs ∧ xs.length ≤ reachBytes ∧ ∀ x ∈ xs, x.1 < 4294967296 ∧ Q x.2 := by
  rcases open_slice_pairs ht he ce o0 o1 c0 c1 h with ⟨hcs, _⟩ | ⟨x, len, cap, m, n, V0, V1, D0, D1, P0, P1, hcs, _, hl, hm, hmm, hy, hx⟩
  · simp at hcs
    subst hcs
    exact ⟨[], RdE.nil, Nat.zero_le _, fun x h => by cases h⟩
  · simp at hcs
    subst hcs
    have hm2 : len ≤ m := by rw [hmm]; split <;> omega
    rw [hy] at hL
    obtain ⟨hsz, hel⟩ := Light.elem ht hL
    have hlen : len ≤ reachBytes := by
      simp only [List.length_map, List.length_range] at hsz
      have : (len + (m - len)) * 1 ≤ (len + (m - len)) * P.bytesOf e := Nat.mul_le_mul_left _ hb
      omega
    have each : ∀ i, i < len → ∃ q : Nat × β, V0 i = .int .u32 (q.1 : Nat) ∧ q.1 < 4294967296 ∧ F w (fun _ => True) (V1 i) q.2 ∧ Q q.2 := by
      intro i hi
      obtain ⟨_, _, t0, t1⟩ := hx i (by omega)
      obtain ⟨p, e0, _, w0⟩ := DataW.trod_int k0 t0
      have b0 := wf_u32 w0
      simp at e0
      have hli := hel _ (List.mem_map.2 ⟨i, List.mem_range.2 hi, rfl⟩)
      obtain ⟨b, hb1, hb2⟩ := hf _ _ _ t1 (Light.field he hli (j := 1) rfl rfl)
      exact ⟨(p.toNat, b), by rw [e0]; congr 1; simp only; omega, by simp only; omega, hb1, hb2⟩
    obtain ⟨q, hq⟩ := choose_lt each
    refine ⟨(List.range len).map q, ⟨some x, cap, by simp, by simp; exact hl, (fun h => by cases h), fun _ _ => trivial, fun hne => ?_⟩, by simpa using hlen, ?_⟩
    · have h0 : 0 < len := by
        rcases Nat.eq_zero_or_pos len with h | h
        · subst h; simp at hne
        · exact h
      obtain ⟨b, o, s⟩ := x
      have hc := (hx 0 (by omega)).1
      have hs : s = none := by simpa [Addr.add] using World.cell?_spot hc
      subst hs
      refine ⟨b, o, rfl, fun i hi => ?_⟩
      have hi' : i < len := by simpa using hi
      obtain ⟨g0, g1, _, _⟩ := hx i (by omega)
      obtain ⟨e0, _, e1, _⟩ := hq i hi'
      rw [Addr.add_lit] at g0 g1
      refine ⟨[V0 i, V1 i], rfl, ⟨V1 i, ?_, ?_⟩, fun j u hj => ?_⟩
      · simp [e0]
      · simpa using e1
      · match j, hj with
        | 0, hj => simp at hj; subst hj; simpa using g0
        | 1, hj => simp at hj; subst hj; rw [Nat.add_assoc]; exact g1
    · intro z hz
      obtain ⟨i, hi, rfl⟩ := List.mem_map.1 hz
      have hi' := List.mem_range.1 hi
      exact ⟨(hq i hi').2.1, (hq i hi').2.2.2⟩
theorem reach_big : reachBytes ≤ big := by have := reachBytes_lt; unfold big; omega
end
theorem array6 {α : Type} {vs : Array α} (h : vs.size = 6) : ∃ a b c d e f, vs = #[a, b, c, d, e, f] := by
  obtain ⟨l⟩ := vs
  match l, h with
  | [a, b, c, d, e, f], _ => exact ⟨a, b, c, d, e, f, rfl⟩
end Go.Proofs.Ytnngibflnnmioaa
