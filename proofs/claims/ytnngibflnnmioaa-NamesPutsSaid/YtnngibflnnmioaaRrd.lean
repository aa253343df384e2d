/-
  Whether an instruction may be: the document's Right.
-/
import Derived.Test.YtnngibflnnmioaaRgt
import Derived.Test.YtnngibflnnmioaaCut
namespace Go.Proofs.Ytnngibflnnmioaa
open Go.RowKit Go.Proofs.Leb Go.Proofs.Own
set_option maxRecDepth 100000
set_option maxHeartbeats 16000000

def cellsR (m : Ins) (l : Value) : Array Value := #[.int .u8 m.p, .int .u32 m.c, .int .i64 m.k, .int .u8 m.t, .int .u32 m.i, .int .u32 m.x, .int .u32 m.y, l, .int .i64 m.n, .string m.raw, .int .u8 m.lane, .string m.ty]
def BoxR (w : World) (g : Nat) (m : Ins) (l : Value) : Prop := w.heap[g]? = some (.cells (cellsR m l) 25)
/-- what stands in an instruction that its op has not: numbers -/
def C1 (s : Int) (m : Ins) : Prop :=
  (m.x ≠ 0 ∧ ¬ (s = 2 ∨ s = 3 ∨ s = 4 ∨ s = 5 ∨ s = 8 ∨ s = 16)) ∨ (m.y ≠ 0 ∧ ¬ (s = 3 ∨ s = 5 ∨ s = 16)) ∨ (0 < m.li.length ∧ s ≠ 4) ∨ (m.n ≠ 0 ∧ s ≠ 9 ∧ s ≠ 10) ∨ (m.lane ≠ 0 ∧ s ≠ 15 ∧ s ≠ 16)
/-- texts, and what a block is like -/
def C2 (s : Int) (m : Ins) : Prop :=
  (0 < m.raw.size ∧ ¬ (s = 11 ∨ s = 12 ∨ s = 13 ∨ s = 14)) ∨ (0 < m.ty.size ∧ s ≠ 17 ∧ s ≠ 18) ∨ ((m.k ≠ 0 ∨ m.t ≠ 0 ∨ m.i ≠ 0) ∧ s ≠ 1)
def inX (s : Int) : Bool := [2, 3, 4, 5, 8, 16].any fun n : Nat => decide ((n : Int) = s)
def inY (s : Int) : Bool := [3, 5, 16].any fun n : Nat => decide ((n : Int) = s)
def inR (s : Int) : Bool := [11, 12, 13, 14].any fun n : Nat => decide ((n : Int) = s)
theorem inX_iff (s : Int) : inX s = true ↔ (s = 2 ∨ s = 3 ∨ s = 4 ∨ s = 5 ∨ s = 8 ∨ s = 16) := by
  unfold inX
  simp only [List.any_cons, List.any_nil, Bool.or_false, Bool.or_eq_true, decide_eq_true_eq]
  omega
theorem inY_iff (s : Int) : inY s = true ↔ (s = 3 ∨ s = 5 ∨ s = 16) := by
  unfold inY
  simp only [List.any_cons, List.any_nil, Bool.or_false, Bool.or_eq_true, decide_eq_true_eq]
  omega
theorem inR_iff (s : Int) : inR s = true ↔ (s = 11 ∨ s = 12 ∨ s = 13 ∨ s = 14) := by
  unfold inR
  simp only [List.any_cons, List.any_nil, Bool.or_false, Bool.or_eq_true, decide_eq_true_eq]
  omega

theorem sz0 {s : ByteArray} (h : s.size = 0) : s = ⟨#[]⟩ := ByteArray.ext (Array.eq_empty_of_size_eq_zero h)
theorem tl_size {s : ByteArray} (h : s.toList = []) : s.size = 0 := by
  rw [ByteArray.toList_eq] at h
  have := congrArg List.length h
  simpa using this
theorem tl_pos {s : ByteArray} (h : ¬ s.toList = []) : 0 < s.size := by
  refine Nat.pos_of_ne_zero fun e => h ?_
  rw [ByteArray.toList_eq, sz0 e]
theorem isE {α : Type} {l : List α} (h : ¬ l = []) : l.isEmpty = false := by
  cases l with
  | nil => exact absurd rfl h
  | cons _ _ => rfl
theorem c1_not {s : Int} {m : Ins} (h : C1 s m) : zap s m ≠ zeroI m.p m.c := by
  intro e
  have hx := congrArg Ins.x e
  have hy := congrArg Ins.y e
  have hl := congrArg Ins.li e
  have hn := congrArg Ins.n e
  have he := congrArg Ins.lane e
  simp only [zap, zeroI] at hx hy hl hn he
  have hl2 : (if s = 4 then ([] : List Nat) else m.li).length = 0 := by rw [hl]; rfl
  unfold C1 at h
  rcases h with ⟨h, k⟩ | ⟨h, k⟩ | ⟨h, k⟩ | ⟨h, k1, k2⟩ | ⟨h, k1, k2⟩
  · rw [if_neg k] at hx; exact h hx
  · rw [if_neg k] at hy; exact h hy
  · rw [if_neg k] at hl2; omega
  · rw [if_neg (by omega)] at hn; exact h hn
  · rw [if_neg (by omega)] at he; exact h he
theorem c2_not {s : Int} {m : Ins} (h : C2 s m) : zap s m ≠ zeroI m.p m.c := by
  intro e
  have hk := congrArg Ins.k e
  have ht := congrArg Ins.t e
  have hi := congrArg Ins.i e
  have hr := congrArg Ins.raw e
  have hy := congrArg Ins.ty e
  simp only [zap, zeroI] at hk ht hi hr hy
  unfold C2 at h
  rcases h with ⟨h, k⟩ | ⟨h, k1, k2⟩ | ⟨h, k⟩
  · rw [if_neg k] at hr; rw [hr] at h; exact absurd h (by decide)
  · rw [if_neg (by omega)] at hy; rw [hy] at h; exact absurd h (by decide)
  · rw [if_neg k] at hk ht hi
    rcases h with h | h | h
    · exact h hk
    · exact h ht
    · exact h hi
theorem c_zap {s : Int} {m : Ins} (h1 : ¬ C1 s m) (h2 : ¬ C2 s m) : zap s m = zeroI m.p m.c := by
  unfold C1 at h1
  unfold C2 at h2
  simp only [not_or, not_and, Decidable.not_not] at h1 h2
  obtain ⟨a1, a2, a3, a4, a5⟩ := h1
  obtain ⟨b1, b2, b3⟩ := h2
  have e1 : (if s = 1 then 0 else m.k) = 0 := by split; rfl; rename_i h; exact Decidable.byContradiction fun hc => h (b3 (.inl hc))
  have e2 : (if s = 1 then 0 else m.t) = 0 := by split; rfl; rename_i h; exact Decidable.byContradiction fun hc => h (b3 (.inr (.inl hc)))
  have e3 : (if s = 1 then 0 else m.i) = 0 := by split; rfl; rename_i h; exact Decidable.byContradiction fun hc => h (b3 (.inr (.inr hc)))
  have e4 : (if s = 2 ∨ s = 3 ∨ s = 4 ∨ s = 5 ∨ s = 8 ∨ s = 16 then 0 else m.x) = 0 := by split; rfl; rename_i h; exact Decidable.byContradiction fun hc => by have := a1 hc; omega
  have e5 : (if s = 3 ∨ s = 5 ∨ s = 16 then 0 else m.y) = 0 := by split; rfl; rename_i h; exact Decidable.byContradiction fun hc => by have := a2 hc; omega
  have e6 : (if s = 4 then [] else m.li) = [] := by
    split
    · rfl
    · rename_i h
      exact List.eq_nil_of_length_eq_zero (by have := fun hc => h (a3 hc); omega)
  have e7 : (if s = 9 ∨ s = 10 then 0 else m.n) = 0 := by split; rfl; rename_i h; exact Decidable.byContradiction fun hc => by have := a4 hc; omega
  have e8 : (if s = 11 ∨ s = 12 ∨ s = 13 ∨ s = 14 then (⟨#[]⟩ : ByteArray) else m.raw) = ⟨#[]⟩ := by split; rfl; rename_i h; exact sz0 (Nat.eq_zero_of_not_pos fun hc => by have := b1 hc; omega)
  have e9 : (if s = 15 ∨ s = 16 then 0 else m.lane) = 0 := by split; rfl; rename_i h; exact Decidable.byContradiction fun hc => by have := a5 hc; omega
  have e10 : (if s = 17 ∨ s = 18 then (⟨#[]⟩ : ByteArray) else m.ty) = ⟨#[]⟩ := by split; rfl; rename_i h; exact sz0 (Nat.eq_zero_of_not_pos fun hc => by have := b2 hc; omega)
  unfold zap zeroI
  rw [e1, e2, e3, e4, e5, e6, e7, e8, e9, e10]
end Go.Proofs.Ytnngibflnnmioaa
