/-
  Functions' types: are two the same?
-/
import Derived.Test.YtjagimlmclejeaaJ23
import Derived.Test.YtjagimlmclejeaaJ38
namespace Go.Proofs.Ytjagimlmclejeaa
open Go.RowKit Go.Proofs.Leb Go.Proofs.Own
set_option maxRecDepth 100000
set_option maxHeartbeats 4000000

theorem funcSame_any (u1 u2 v1 v2 : Value) (p r p' r' : List UInt8) (w : World) (h1 : Rd w u1 p) (h2 : Rd w u2 r) (k1 : Rd w v1 p') (k2 : Rd w v2 r') (s1 : p.length ≤ 100000) (s2 : r.length ≤ 100000) (t1 : p'.length ≤ 100000) (t2 : r'.length ≤ 100000) :
    Calls Try.prog 18 #[.agg #[u1, u2], .agg #[v1, v2]] w (IsNew (decide (p = p' ∧ r = r')) w) := by
  have HE1 := hid (fun w' (hn : New w w') => eqV_any u1 v1 p p' w' (h1.new hn) (k1.new hn) (by omega) (by omega))
  have HE2 := hid (fun w' (hn : New w w') => eqV_any u2 v2 r r' w' (h2.new hn) (k2.new hn) (by omega) (by omega))
  obtain ⟨a1, c1, rfl⟩ := h1.shape
  obtain ⟨a2, c2, rfl⟩ := h2.shape
  obtain ⟨a3, c3, rfl⟩ := k1.shape
  obtain ⟨a4, c4, rfl⟩ := k2.shape
  obtain ⟨b1, hb1⟩ : ∃ b, decide (p = p') = b := ⟨_, rfl⟩
  obtain ⟨b2, hb2⟩ : ∃ b, decide (r = r') = b := ⟨_, rfl⟩
  have HB : Hid (decide (p = p' ∧ r = r') = (b1 && b2)) := by show _ = _; rw [← hb1, ← hb2]; simp
  rw [hb1] at HE1
  rw [hb2] at HE2
  rw [HB.out]
  have HN : Hid (New w ((w.alloc (.cells #[.slice a1 p.length c1, .slice a2 r.length c2] 35)).alloc (.cells #[.slice a3 p'.length c3, .slice a4 r'.length c4] 35))) := ((Upd.refl _ _).alloc _).alloc _
  have HZ1 : Hid (((w.alloc (.cells #[.slice a1 p.length c1, .slice a2 r.length c2] 35)).alloc (.cells #[.slice a3 p'.length c3, .slice a4 r'.length c4] 35)).heap[w.heap.size]? = some (.cells #[.slice a1 p.length c1, .slice a2 r.length c2] 35)) := hp_old (by simp) (hp_new rfl)
  have HZ2 : Hid (((w.alloc (.cells #[.slice a1 p.length c1, .slice a2 r.length c2] 35)).alloc (.cells #[.slice a3 p'.length c3, .slice a4 r'.length c4] 35)).heap[w.heap.size + 1]? = some (.cells #[.slice a3 p'.length c3, .slice a4 r'.length c4] 35)) := hp_new (by simp)
  clear h1 h2 k1 k2 hb1 hb2
  go_enter Try.func18, Try.ntmps18
  go_upto_region 1 with fail
  generalize (w.alloc (.cells #[.slice a1 p.length c1, .slice a2 r.length c2] 35)).alloc (.cells #[.slice a3 p'.length c3, .slice a4 r'.length c4] 35) = w2 at *
  have z0 : w2.cell? ⟨w.heap.size, 0, none⟩ = some (.slice a1 p.length c1) := cellAt HZ1.out 0 rfl
  have z1 : w2.cell? ⟨w.heap.size + 1, 0, none⟩ = some (.slice a3 p'.length c3) := cellAt HZ2.out 0 rfl
  go_wp2_with fail
  refine (HE1.out _ HN.out).mono ?_
  rintro e w3 ⟨rfl, hn⟩
  have HN3 := hid (New.trans HN.out hn)
  have z0 : w3.cell? ⟨w.heap.size, 1, none⟩ = some (.slice a2 r.length c2) := cellAt (hp1 HZ1.out hn) 1 rfl
  have z1 : w3.cell? ⟨w.heap.size + 1, 1, none⟩ = some (.slice a4 r'.length c4) := cellAt (hp1 HZ2.out hn) 1 rfl
  clear hn
  cases b1 with
  | false =>
    go_wp2_with fail
    go_ret
    exact ⟨rfl, HN3.out⟩
  | true =>
    go_wp2_with fail
    refine (HE2.out _ HN3.out).mono ?_
    rintro e w4 ⟨rfl, hn⟩
    have HN4 := hid (New.trans HN3.out hn)
    clear hn z0 z1
    go_wp2_with fail
    go_ret
    exact ⟨rfl, HN4.out⟩
theorem iteFn {A B : Prop} [Decidable A] [Decidable B] {w : World} : (if A then if B then Result.ok (Next.value (Value.bool true)) w else Result.ok (Next.value (Value.bool false)) w else Result.ok (Next.value (Value.bool false)) w) = Result.ok (Next.value (Value.bool (decide (A ∧ B)))) w := by
  by_cases h1 : A <;> by_cases h2 : B <;> simp [h1, h2]
theorem eqlFn (p r p' r' : ByteArray) (w : World) : (binOp .eql 23 (.agg #[.string p, .string r]) (.agg #[.string p', .string r'])).run Try.prog w = .ok (.bool (decide (p = p' ∧ r = r'))) w := by
  have hp : Try.prog.stoodInHeld 23 = false := by kernel_rfl
  have hg : Try.prog.eqGuardType Try.prog.depth 23 = false := by kernel_rfl
  go_simp
  simp only [tl_iff]
  by_cases h1 : p = p' <;> by_cases h2 : r = r' <;> simp [h1, h2]
end Go.Proofs.Ytjagimlmclejeaa
