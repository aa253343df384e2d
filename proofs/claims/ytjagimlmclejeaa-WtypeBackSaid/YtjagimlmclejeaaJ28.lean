/-
  What digits are that have come out.
-/
import Derived.Test.YtjagimlmclejeaaJ2
namespace Go.Proofs.Cur
open Go.Proofs.Leb
/-- what digits are that have come out -/
theorem numO_ok {bs : List UInt8} {lim : Int} {may : List UInt8 → UInt8 → Int → Prop} : ∀ {n : Nat} {ds : List UInt8} {p : Nat} {ds' : List UInt8} {q : Nat}, numO bs lim may n ds p = .ok ds' q →
    ∃ a x, ds' = a ++ [x] ∧ x.toNat < 128 ∧ may a x (rest lim q) ∧ ds.length ≤ a.length ∧ a.length + 1 ≤ ds.length + n ∧ (Inv bs.length lim p → Inv bs.length lim q) ∧ p < q ∧ q ≤ bs.length
  | 0, _, _, _, _, h => by cases h
  | n + 1, ds, p, ds', q, h => by
    have hs : numO bs lim may (n + 1) ds p = (byteO bs lim (may ds) p).bind fun x q => if x.toNat < 128 then .ok (ds ++ [x]) q else numO bs lim may n (ds ++ [x]) q := rfl
    rw [hs] at h
    cases hb : byteO bs lim (may ds) p with
    | up q' er => rw [hb] at h; cases h
    | ok x q' =>
      rw [hb] at h
      simp only [Out.bind] at h
      unfold byteO at hb
      split at hb
      · cases hb
      · rename_i h0
        split at hb
        · rename_i h1
          split at hb
          · rename_i h2
            cases hb
            split at h
            · rename_i hx
              cases h
              exact ⟨ds, _, rfl, hx, h2, Nat.le_refl _, by omega, fun hi => hi.next h0 h1, by omega, by omega⟩
            · obtain ⟨a, y, e1, e2, e3, e4, e5, e6, e7, e8⟩ := numO_ok h
              simp only [List.length_append, List.length_cons, List.length_nil] at e4 e5
              exact ⟨a, y, e1, e2, e3, by omega, by omega, fun hi => e6 (hi.next h0 h1), by omega, e8⟩
          · cases hb
        · cases hb
theorem uintO_ok {bs : List UInt8} {lim : Int} {S : Int → Nat → Prop} {p q : Nat} {ds : List UInt8} (h : uintO bs lim S p = .ok ds q) :
    S (rest lim q) (val ds) ∧ val ds < 4294967296 ∧ (Inv bs.length lim p → Inv bs.length lim q) ∧ p < q ∧ q ≤ bs.length := by
  obtain ⟨a, x, rfl, hx, hm, -, hl, hi, h1, h2⟩ := numO_ok h
  unfold mayU comes at hm
  rw [if_pos hx] at hm
  have hlt : val (a ++ [x]) < 128 ^ (a.length + 1) := by have := val_lt (a ++ [x]); simpa using this
  have := (fits_zero hlt).1 hm
  exact ⟨this.1, this.2, hi, h1, h2⟩
end Go.Proofs.Cur
