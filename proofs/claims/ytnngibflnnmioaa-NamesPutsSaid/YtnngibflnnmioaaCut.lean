/-
  A cut in the middle of a region that draws no order.
-/
import Derived.Test.YtnngibflnnmioaaBase
import Derived.Deep.DeepCutAuto
namespace Go.Proofs.Ytnngibflnnmioaa
open Go.RowKit Go.Proofs.Own

section
variable {P : Program} {ops : Array Oper} {Q : Exit → Act → World → Prop}
theorem letsOut_then {R : Act → World → Prop} (h : LetsOut (Exit.then R Q)) : LetsOut Q := h
theorem wp_other {R : Act → World → Prop} {o : Oper} {a : Act} {w : World} {K K' : Act → World → Prop} (h : ∀ a w, K a w → K' a w)
    (hh : o.wp P a w K (Exit.then R Q)) : o.wp P a w K' Q := by
  unfold Oper.wp at *
  generalize (execOp a.eval o).run P w = r at *
  cases r with
  | ok n w' =>
    cases n with
    | value v => exact h _ _ hh
    | skip => exact h _ _ hh
    | defer d => exact h _ _ hh
    | enter f args =>
      refine Calls.mono hh ?_
      intro e w'' he
      cases e with
      | returned v => exact h _ _ he
      | panicked c => exact he
      | outgrown => exact letsOut_then he
    | row row args => exact Rows.mono hh (fun v w'' hv => h _ _ hv)
    | _ => exact hh
  | halt x w' =>
    cases x with
    | panic v => exact hh
    | _ => exact hh
theorem wpList_then {R : Act → World → Prop} {l2 : List Oper} (h2 : ∀ a w, R a w → wpList P ops Q l2 a w) :
    ∀ (l1 : List Oper) (a : Act) (w : World), wpList P ops (Exit.then R Q) l1 a w → wpList P ops Q (l1 ++ l2) a w := by
  intro l1
  induction l1 with
  | nil => intro a w h; exact h2 a w h
  | cons o r ih =>
    intro a w h
    rw [List.cons_append]
    unfold wpList at h ⊢
    split
    · rename_i hw
      rw [if_pos hw] at h
      rcases h with h | ⟨h, h'⟩
      · exact .inl (wp_other ih h)
      · exact .inr ⟨h, letsOut_then h'⟩
    · rename_i hw
      rw [if_neg hw] at h
      exact ih _ _ h

/-- several slots put -/
def puts (a : Act) (l : List (Nat × Value)) : Act := l.foldl (fun a x => a.put (some x.1) x.2) a
theorem wpList_cutK (k : Nat) (R : Act → Act → World → Prop) {l : List Oper} {a : Act} {w : World}
    (h1 : ∀ J : Act → World → Prop, Hid (∀ a' w', R a a' w' → J a' w') → wpList P ops (Exit.then J Q) (l.take k) a w) (h2 : ∀ a' w', R a a' w' → wpList P ops Q (l.drop k) a' w') : wpList P ops Q l a w := by
  have := wpList_then h2 (l.take k) a w (h1 (R a) (fun _ _ h => h))
  rwa [List.take_append_drop] at this
end
end Go.Proofs.Ytnngibflnnmioaa
