/-
  Lists of names, and of lists of names, that came in.
-/
import Derived.Test.YtnngibflnnmioaaNmo
namespace Go.Proofs.Ytnngibflnnmioaa
open Go.RowKit Go.Proofs.Own Go.ChangeShapes Go.WideShapes Go.Deep
set_option maxRecDepth 100000

section
variable {H : Type} {enc : TypeId × Value → H} {w : World} {base : Nat} {spare : Nat → Bool} {held : Bool}
theorem textOf {fuel : Nat} {u : Value} {x : DataW H × List MemPlace} (h : DataW.trod enc Try.prog w base spare held fuel 9 [u] = some x) (hl : Light Try.prog 9 x.1) : ∃ s : ByteArray, u = .string s ∧ s.size ≤ big := by
  obtain ⟨s, e, rfl, _⟩ := DataW.trod_string Try.underlying9 h
  simp at e
  have h1 := Light.str hl
  have h2 := reach_big
  exact ⟨s, e, by simp at h1; omega⟩
theorem namesOf {fuel : Nat} {v : Value} {y : DataW H × List MemPlace} (h : DataW.trod enc Try.prog w base spare held fuel 42 [v] = some y) (hL : Light Try.prog 42 y.1) :
    ∃ xs : List (Nat × ByteArray), RdE 2 (E2 FN) w (fun _ => True) v xs ∧ xs.length ≤ big ∧ ∀ x ∈ xs, x.1 < 4294967296 ∧ x.2.size ≤ big := by
  obtain ⟨xs, h1, h2, h3⟩ := rdeOf FN (fun s => s.size ≤ big) Try.underlying42 Try.underlying86 (by kernel_rfl) rfl rfl (by kernel_rfl) (by kernel_rfl) (of_decide_eq_true (by kernel_rfl)) Try.underlying22 h hL
    (fun fuel u x hx hl => by
      obtain ⟨s, rfl, hs⟩ := textOf hx hl
      exact ⟨s, rfl, hs⟩)
  exact ⟨xs, h1, Nat.le_trans h2 reach_big, h3⟩
theorem localsOf {fuel : Nat} {v : Value} {y : DataW H × List MemPlace} (h : DataW.trod enc Try.prog w base spare held fuel 43 [v] = some y) (hL : Light Try.prog 43 y.1) :
    ∃ ls : List (Nat × List (Nat × ByteArray)), RdE 2 (E2 FL) w (fun _ => True) v ls ∧ ls.length ≤ big ∧ ∀ x ∈ ls, x.1 < 4294967296 ∧ x.2.length ≤ big ∧ ∀ z ∈ x.2, z.1 < 4294967296 ∧ z.2.size ≤ big := by
  obtain ⟨xs, h1, h2, h3⟩ := rdeOf FL (fun l => l.length ≤ big ∧ ∀ z ∈ l, z.1 < 4294967296 ∧ z.2.size ≤ big) Try.underlying43 Try.underlying88 (by kernel_rfl) rfl rfl (by kernel_rfl) (by kernel_rfl) (of_decide_eq_true (by kernel_rfl)) Try.underlying22 h hL
    (fun fuel u x hx hl => by
      obtain ⟨s, k1, k2, k3⟩ := namesOf hx hl
      exact ⟨s, k1, k2, k3⟩)
  exact ⟨xs, h1, Nat.le_trans h2 reach_big, h3⟩
end
/-- the law for what came in -/
theorem namesPuts_in (w : World) (hm hf hl : Bool) (md : ByteArray) (fs : List (Nat × ByteArray)) (ls : List (Nat × List (Nat × ByteArray))) (hm' hf' hl' : Bool) (md' : ByteArray) (fs' : List (Nat × ByteArray)) (ls' : List (Nat × List (Nat × ByteArray)))
    (f l f' l' : Value) (s1 : md.size ≤ big) (s2 : md'.size ≤ big) (h1 : RdE 2 (E2 FN) w (fun _ => True) f fs) (h2 : RdE 2 (E2 FL) w (fun _ => True) l ls) (h3 : RdE 2 (E2 FN) w (fun _ => True) f' fs') (h4 : RdE 2 (E2 FL) w (fun _ => True) l' ls')
    (a1 : fs.length ≤ big) (a2 : ∀ x ∈ fs, x.1 < 4294967296 ∧ x.2.size ≤ big) (a3 : ls.length ≤ big) (a4 : ∀ x ∈ ls, x.1 < 4294967296 ∧ x.2.length ≤ big ∧ ∀ z ∈ x.2, z.1 < 4294967296 ∧ z.2.size ≤ big)
    (b1 : fs'.length ≤ big) (b2 : ∀ x ∈ fs', x.1 < 4294967296 ∧ x.2.size ≤ big) (b3 : ls'.length ≤ big) (b4 : ∀ x ∈ ls', x.1 < 4294967296 ∧ x.2.length ≤ big ∧ ∀ z ∈ x.2, z.1 < 4294967296 ∧ z.2.size ≤ big) :
    Calls Try.prog 4 #[.agg #[.bool hm, .bool hf, .bool hl, .string md, f, l], .agg #[.bool hm', .bool hf', .bool hl', .string md', f', l']] w (True' w) :=
  namesPuts_walk ⟨hm, hf, hl, md, fs, ls⟩ ⟨hm', hf', hl', md', fs', ls'⟩ f l f' l' w ⟨s1, a1, fun x hx => (a2 x hx).2, a3, fun x hx => ⟨(a4 x hx).2.1, fun y hy => ((a4 x hx).2.2 y hy).2⟩⟩
    ⟨s2, b1, fun x hx => (b2 x hx).2, b3, fun x hx => ⟨(b4 x hx).2.1, fun y hy => ((b4 x hx).2.2 y hy).2⟩⟩ ⟨fun x hx => (a2 x hx).1, fun x hx => ⟨(a4 x hx).1, fun y hy => ((a4 x hx).2.2 y hy).1⟩⟩ h1 h2 h3 h4
end Go.Proofs.Ytnngibflnnmioaa
