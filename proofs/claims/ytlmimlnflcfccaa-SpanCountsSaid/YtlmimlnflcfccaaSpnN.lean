/-
  near: a row of ints.
-/
import Derived.Test.YtlmimlnflcfccaaSpnA
namespace Go.Proofs.Ytlmimlnflcfccaa
open Go.RowKit Go.Proofs.Own Go.Proofs.Span
set_option maxRecDepth 100000
set_option maxHeartbeats 800000

/-- the int type's row -/
theorem info3 : (Try.prog.info? 3).map (fun i => (i.zero, i.size, i.bytes)) = some (some (.int .i64 0), 1, 8) := by kernel_rfl
def ci (n : Int) : Value := .int .i64 n
/-- v is a row of ints that the call owns -/
def Ints (w : World) (v : Value) (zs : List Int) : Prop := w.ownsRow 0 3 1 v zs.length (zs.map ci)
theorem Ints.shape {w : World} {v : Value} {zs : List Int} (h : Ints w v zs) : ∃ a cap, v = .slice a zs.length cap := by
  obtain ⟨h1, h2⟩ := h
  rcases h2 with ⟨rfl, hn⟩ | ⟨g, cap, cur, rfl, _⟩
  · exact ⟨none, 0, by rw [hn]⟩
  · exact ⟨_, cap, rfl⟩
theorem Ints.cell {w : World} {a : Option Addr} {n cap : Nat} {zs : List Int} (h : Ints w (.slice a n cap) zs) {j : Nat} (hj : j < zs.length) :
    ∃ g, a = some ⟨g, 0, none⟩ ∧ w.cell? ⟨g, j, none⟩ = some (.int .i64 zs[j]) := by
  have h0 := h
  obtain ⟨h1, h2⟩ := h
  rcases h2 with ⟨he, hn⟩ | ⟨g, cap', cur, he, _⟩
  · omega
  · cases he
    refine ⟨g, rfl, ?_⟩
    have := World.ownsRow.cells (g := g) h0 rfl j (ci zs[j]) (by simp [hj])
    rwa [Addr.add_lit, Nat.zero_add] at this
theorem Ints.new {w w' : World} {v : Value} {zs : List Int} (h : Ints w v zs) (hu : New w w') : Ints w' v zs := ownsRow_new h hu

/-- append of ints that lie in a new block, at a goal that is held -/
theorem appI {ops : Array Oper} {rest : List Oper} {o : Oper} {a : Act} {Q : Exit → Act → World → Prop} {w : World} (s x : Operand) {v : Value} {d : List Int} (news : List Int)
    (hb : Ints w v d) (hl : d.length + news.length ≤ 1000000) (hgd : o.guard = none) (ho : o.op = .call { callee := .builtin .append, args := #[s, x], argTypes := #[60, 60] })
    (hs : a.eval s = v) (hx : a.eval x = .slice (some ⟨w.heap.size, 0, none⟩) news.length news.length)
    (h : ∀ v' w', Ints w' v' (d ++ news) → Adds w w' v v' → wpList Try.prog ops Q rest (a.put o.dst v') w') :
    Hold (wpList Try.prog ops Q (o :: rest) a (w.alloc (.cells (news.map ci).toArray 3))) := by
  refine held_append 60 3 1 8 (.int .i64 0) info3 Try.underlying60 rfl (by decide) s x hgd ho 0 v d.length (d.map ci) hs (hb.alloc _) ⟨w.heap.size, 0, none⟩ news.length news.length (news.map ci) hx (by simp) ?_ ?_
    (by unfold maxLen; omega) (by omega) (Nat.zero_le _) ?_
  · intro j u hj
    rw [Addr.add_lit, cell_of_row _ w.heap.size (0 + j) _ 3 (0, 0) (heap_alloc_new w _)]
    simpa using hj
  · intro u hu
    simp only [List.mem_map] at hu
    obtain ⟨x, _, rfl⟩ := hu
    rfl
  · intro v' w' h1 h2
    refine h v' w' ?_ (Adds.ahead ((Upd.refl _ _).alloc _) h2)
    unfold Ints
    rw [List.length_append, List.map_append]
    exact h1

def NearPost (w : World) (e : Ending) (w' : World) : Prop := ∃ v zs, e = .returned v ∧ Ints w' v zs ∧ zs.length ≤ 20 ∧ (∀ z ∈ zs, -1 ≤ z ∧ z ≤ 10000000000) ∧ New w w'

theorem near_any (lo hi : Int) (w : World) (l0 : 0 ≤ lo) (l1 : lo ≤ 4294967296) (h0 : 0 ≤ hi) (h1 : hi ≤ 4294967295) :
    Calls Try.prog 39 #[.agg #[.int .u64 lo, .int .u64 hi]] w (NearPost w) := by
  have K0 : Hid ((w.alloc (.cells #[.int .u64 lo, .int .u64 hi] 58)).cell? ⟨w.heap.size, 0, none⟩ = some (.int .u64 lo)) := by show _ = _; simp
  have K1 : Hid ((w.alloc (.cells #[.int .u64 lo, .int .u64 hi] 58)).cell? ⟨w.heap.size, 1, none⟩ = some (.int .u64 hi)) := by show _ = _; simp
  obtain ⟨w0, hw0⟩ : ∃ w0, w.alloc (.cells #[.int .u64 lo, .int .u64 hi] 58) = w0 := ⟨_, rfl⟩
  have KS : Hid (w0.heap.size = w.heap.size + 1) := by show _ = _; rw [← hw0]; simp
  have KN : Hid (New w w0) := by show New _ _; rw [← hw0]; exact (Upd.refl _ _).alloc _
  rw [hw0] at K0 K1
  have HW0 := hid hw0
  clear hw0
  go_enter Try.func39, Try.ntmps39
  go_wp2_with fail
  rw [HW0.out]
  go_loopw [3, 4] (fun v c wr => ∃ (zs : List Int) (d : Nat), c = .int .i64 d ∧ d ≤ 3 ∧ Ints wr v zs ∧ zs.length = 4 + 2 * d ∧ (∀ z ∈ zs, -1 ≤ z ∧ z ≤ 10000000000) ∧ New w0 wr ∧ Fresh w0 v) (fun _ c _ => 3 - (intOf c).toNat)
  case atStart =>
    rw [← KS.out]
    refine ⟨[0, 1, 2, 4294967295], 0, rfl, by omega, ?_, rfl, ?_, (Upd.refl _ _).alloc _, ?_⟩
    · exact ⟨rfl, .inr ⟨w0.heap.size, 4, _, rfl, Nat.zero_le _, heap_alloc_new w0 _, Nat.le_refl _, by decide, rfl, rfl⟩⟩
    · intro z hz
      simp only [List.mem_cons, List.not_mem_nil, or_false] at hz
      omega
    · intro k hk
      cases hk
      exact Nat.le_refl _
  case round =>
    obtain ⟨zs, d, rfl, hd, hb, hlen, hbd, hw, hf⟩ := hrel
    have c0 := hw.cell K0.out (fun h => h)
    have c1 := hw.cell K1.out (fun h => h)
    have HB := hid hbd
    clear hbd
    by_cases hlt : d < 3
    · go_wp2_with (at_builtin; refine hold ?_)
      refine appI (.tmp 10) (.tmp 23) [lo + d - 1, hi + d - 1] hb (by simp; omega) rfl rfl rfl rfl ?_
      intro v' w1 hb1 ha1
      have hw1 := hw.newAdds hf ha1
      have hf1 := hf.adds hw.size ha1
      clear ha1 hb hw hf c0 c1
      go_wp2_with fail
      go_roundw
      case rel =>
        refine ⟨_, d + 1, by go_num, by omega, hb1, by simp; omega, ?_, hw1, hf1⟩
        intro z hz
        rcases List.mem_append.mp hz with h | h
        · exact HB.out z h
        · simp only [List.mem_cons, List.not_mem_nil, or_false] at h
          omega
      case measure => simp [intOf]; omega
    · go_wp2_with (at_builtin; refine hold ?_)
      refine appI (.tmp 25) (.tmp 33) [(lo + hi) / 2] hb (by simp; omega) rfl rfl rfl rfl ?_
      intro v' w1 hb1 ha1
      have hw1 := hw.newAdds hf ha1
      clear ha1 hb hw hf c0 c1
      go_wp2_with fail
      go_ret
      refine ⟨v', _, rfl, hb1, by simp; omega, ?_, New.trans KN.out hw1⟩
      intro z hz
      rcases List.mem_append.mp hz with h | h
      · exact HB.out z h
      · simp only [List.mem_cons, List.not_mem_nil, or_false] at h
        omega
end Go.Proofs.Ytlmimlnflcfccaa
