/-
  What is more than is looked at; the bytes of a right instruction are the same on both sides.
-/
import Derived.Test.YtnngibflnnmioaaRpt
namespace Go.Proofs.Ytnngibflnnmioaa
open Go.RowKit Go.Proofs.Leb Go.Proofs.Own
set_option maxRecDepth 100000
set_option maxHeartbeats 4000000

def GreatQ (m : Ins) : Prop := 100 < m.li.length ∨ 100 < m.raw.size ∨ 100 < m.ty.size
theorem great_any (m : Ins) (l : Value) (w : World) (h1 : ∃ a c, l = .slice a m.li.length c) : Calls Try.prog 5 #[rI m l] w (SameP (GreatQ m) w) := by
  obtain ⟨al, cl, rfl⟩ := h1
  obtain ⟨p, c, k, t, i, x, y, li, n, raw, lane, ty⟩ := m
  unfold rI GreatQ
  simp only
  have HN := hid (fun o => (Upd.refl (fun _ => False) w).alloc o)
  go_enter Try.func5, Try.ntmps5
  go_wp2_with fail
  all_goals go_ret
  all_goals refine ⟨_, rfl, ?_, HN.out _⟩
  all_goals first
    | (refine iff_of_true rfl ?_; omega)
    | (refine iff_of_false (by decide) ?_; omega)
    | (simp; omega)

theorem sgn_zero (v : Int) (wd : Nat) (h : (encS v 0).length ≤ most wd) : sgnV v wd 0 = encS v 0 := if_pos h
theorem opR_zero (p c : Nat) (hc : c < 4294967296) : opR p c 0 = opBytes p c := by
  unfold opR opBytes
  rw [numV_zero hc]
theorem flat_zero (li : List Nat) (h : ∀ z ∈ li, z < 4294967296) : li.flatMap (numV · 0) = li.flatMap (encU · 0) := by
  induction li with
  | nil => rfl
  | cons a r ih =>
    simp only [List.flatMap_cons]
    rw [numV_zero (h a (by simp)), ih (fun z hz => h z (by simp [hz]))]
theorem put_zero {s : Int} {p c t i x y lane : Nat} {k n : Int} {li : List Nat} {raw ty : ByteArray} (hi : i < 4294967296) (hx : x < 4294967296) (hy : y < 4294967296) (hli : ∀ z ∈ li, z < 4294967296) (s1 : li.length ≤ 1000) (s3 : ty.size ≤ 1000)
    (n1 : -9223372036854775808 ≤ n) (n2 : n ≤ 9223372036854775807) (h9 : s = 9 → -2147483648 ≤ n ∧ n ≤ 2147483647) (hk : s = 1 → k = 0 ∨ k = 1 ∨ k = 2) (hr : ¬ (s = 11 ∨ s = 12 ∨ s = 13 ∨ s = 14) → lb raw = []) :
    putR s ⟨p, c, k, t, i, x, y, li, n, raw, lane, ty⟩ 0 = putB s ⟨p, c, k, t, i, x, y, li, n, raw, lane, ty⟩ := by
  have e1 : sgnV i 33 0 = encS i 0 := sgn_zero _ _ (encS_len_le 5 i (by decide) (by omega) (by omega))
  have e2 : s = 9 → sgnV n 32 0 = encS n 0 := fun h => sgn_zero _ _ (encS_len_le 5 n (by decide) (by have := h9 h; omega) (by have := h9 h; omega))
  have e3 : sgnV n 64 0 = encS n 0 := sgn_zero _ _ (encS_len_le 10 n (by decide) (by omega) (by omega))
  have e4 := numV_zero hx
  have e5 := numV_zero hy
  have e6 := numV_zero (v := li.length) (by omega)
  have e7 := numV_zero (v := ty.size) (by omega)
  have e8 := flat_zero li hli
  unfold putR putB btB
  simp only [Int.toNat_natCast, e1, e3, e4, e5, e6, e7, e8]
  rcases shapes2 s with rfl | rfl | rfl | rfl | rfl | rfl | rfl | rfl | rfl | rfl | rfl | rfl | rfl | rfl | rfl | rfl | rfl | rfl | ⟨h1, h2, h3, h4, h5, h6, h7, h8, h9', h10, h11, h12, h13, h14, h15, h16, h17, h18⟩
  · rcases hk rfl with rfl | rfl | rfl <;> simp
  all_goals first
    | rfl
    | (simp [e2 rfl]; done)
    | (simp; done)
    | (simp [h1, h2, h3, h4, h5, h6, h7, h8, h9', h10, h11, h12, h13, h14, h15, h16, h17, h18]; exact hr (by omega))
end Go.Proofs.Ytnngibflnnmioaa
