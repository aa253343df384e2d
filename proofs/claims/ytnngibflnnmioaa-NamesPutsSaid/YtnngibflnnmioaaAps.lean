/-
  append(b, s...) of a text to bytes that are owned.
-/
import Derived.Test.YtnngibflnnmioaaNum
import Derived.Lib.AppendStr
namespace Go.Proofs.Ytnngibflnnmioaa
open Go.RowKit Go.Proofs.Own Go.Lib
set_option maxRecDepth 100000
set_option maxHeartbeats 2000000

theorem strCells_lb (s : ByteArray) : strCells s = (lb s).map cb := rfl
theorem runS {w : World} {sv : Value} {ds : List UInt8} (ty : TypeId) (s : ByteArray) (hb : Bytes w sv ds) (hl : ds.length + s.size ≤ 1000000000) :
    ∃ v' w', (Builtin.append_ #[39, 9] ty #[sv, .string s]).run Try.prog w = .ok v' w' ∧ Bytes w' v' (ds ++ lb s) ∧ Adds w w' sv v' := by
  obtain ⟨i, hi, hz, hsz, hby⟩ := info_parts info5
  have hown : w.ownsRow 0 5 1 sv ds.length (ds.map cb) := hb
  have conv : ∀ {w' : World} {row : Option Nat}, w.grownBy w' row → Upd (fun k => row = some k) w w' := fun g =>
    ⟨g.os, g.tape, g.output, g.size, fun k hk hn => g.block k hk (fun e => hn e.symm)⟩
  obtain ⟨v', w', hr', ho, hg', hnil⟩ := run_append_own_string (P := Try.prog) w 0 39 9 ty 5 i Try.underlying39 Try.underlying9 hi hz hsz hby sv ds.length (ds.map cb) hown s (by unfold maxLen; omega) (by omega) (Nat.zero_le _)
  refine ⟨v', w', hr', ?_, conv hg', ?_⟩
  · unfold Bytes
    rw [List.length_append, lb_len, List.map_append, ← strCells_lb]
    exact ho
  · rcases hown.2 with ⟨rfl, hn⟩ | ⟨g, cap, cur, rfl, hbg, hg, hnc, hcm, hcs, htake⟩
    · have hown2 : w.ownsRow w.heap.size 5 1 (.slice none 0 0) 0 [] := World.ownsRow_nil w _ _ 1
      have hd : ds = [] := List.eq_nil_of_length_eq_zero hn
      subst hd
      obtain ⟨v2, w2, hr2, ho2, _, _⟩ := run_append_own_string (P := Try.prog) w w.heap.size 39 9 ty 5 i Try.underlying39 Try.underlying9 hi hz hsz hby (.slice none 0 0) 0 [] hown2 s (by unfold maxLen; omega) (by omega) (Nat.le_refl _)
      rw [hr'] at hr2
      cases hr2
      cases hbk : v'.ownBlock with
      | none => exact .inl rfl
      | some k => exact .inr ⟨k, rfl, (ho2.lt k hbk).1⟩
    · by_cases hroom : ds.length + s.size ≤ cap
      · have hcs' : cur.size = cap := by simpa using hcs
        have hr := run_append_room_string (P := Try.prog) w 39 9 ty 5 i Try.underlying39 Try.underlying9 hi hsz g ds.length cap cur hg s hroom (by omega)
        rw [hr'] at hr
        cases hr
        exact .inl rfl
      · have holds : ∀ j u, (ds.map cb)[j]? = some u → w.cell? ((⟨g, 0, none⟩ : Addr).add j) = some u := hown.cells (g := g) rfl
        have hr := run_append_grow_string (P := Try.prog) w 39 9 ty 5 i (.int .u8 0) Try.underlying39 Try.underlying9 hi hz ⟨g, 0, none⟩ ds.length cap (ds.map cb) (by rw [hsz]; simp) holds s (by omega) (by omega) (by rw [hby]; exact growslice_fits (by omega) (by omega))
        rw [hr'] at hr
        cases hr
        exact .inr ⟨_, rfl, Nat.le_refl _⟩

/-- append of a text, at a goal that is held -/
theorem appS {ops : Array Oper} {rest : List Oper} {o : Oper} {a : Act} {Q : Exit → Act → World → Prop} {w : World} (s x : Operand) {sv : Value} {ds : List UInt8} {t : ByteArray}
    (hb : Bytes w sv ds) (hl : ds.length + t.size ≤ 1000000000) (hgd : o.guard = none) (ho : o.op = .call { callee := .builtin .append, args := #[s, x], argTypes := #[39, 9] })
    (hs : a.eval s = sv) (hx : a.eval x = .string t)
    (h : ∀ v' w', Bytes w' v' (ds ++ lb t) → Adds w w' sv v' → wpList Try.prog ops Q rest (a.put o.dst v') w') :
    Hold (wpList Try.prog ops Q (o :: rest) a w) := by
  obtain ⟨v', w', hr, ho', ha⟩ := runS o.type t hb hl
  refine wpList_plain hgd fun K hK => ?_
  unfold Oper.wp execOp
  simp only [ho, resolve, invoke, builtin, Sem.run_bind, Sem.run_pure, Result.andThen_ok, List.map_toArray, List.map_cons, List.map_nil, hs, hx, hr]
  exact hK _ _ (h v' w' ho' ha)
end Go.Proofs.Ytnngibflnnmioaa
