/-
  append of numbers of 32 bits to a row that is owned.
-/
import Derived.Test.YtnngibflnnmioaaLst
namespace Go.Proofs.Ytnngibflnnmioaa
open Go.RowKit Go.Proofs.Own
set_option maxRecDepth 100000
set_option maxHeartbeats 2000000

theorem infoN : (Try.prog.info? 22).map (fun i => (i.zero, i.size, i.bytes)) = some (some (.int .u32 0), 1, 4) := by kernel_rfl
def cn (n : Nat) : Value := .int .u32 (n : Nat)
/-- a row of numbers that the call owns -/
def NRow (w : World) (v : Value) (ns : List Nat) : Prop := w.ownsRow 0 22 1 v ns.length (ns.map cn)
theorem NRow.rd {w : World} {v : Value} {ns : List Nat} (h : NRow w v ns) : RdM .u32 w v ns := by
  obtain ⟨h1, h2⟩ := h
  rcases h2 with ⟨rfl, hn⟩ | ⟨g, cap, cur, rfl, _, hg, hn, hm, hs, ht⟩
  · have : ns = [] := List.eq_nil_of_length_eq_zero hn
    subst this
    exact RdM.nil _ w
  · refine ⟨_, cap, rfl, hn, (fun h => by cases h), fun _ => ⟨g, 0, rfl, fun i hi => ?_⟩⟩
    have hown : w.ownsRow 0 22 1 (.slice (some ⟨g, 0, none⟩) ns.length cap) ns.length (ns.map cn) := ⟨h1, .inr ⟨g, cap, cur, rfl, Nat.zero_le _, hg, hn, hm, hs, ht⟩⟩
    have := hown.cells (g := g) rfl i (cn ns[i]) (by simp [hi])
    rwa [Addr.add_lit] at this
theorem NRow.lt {w : World} {v : Value} {ns : List Nat} (h : NRow w v ns) : ∀ k, v.ownBlock = some k → k < w.heap.size := fun k hk => (World.ownsRow.lt h k hk).2
theorem NRow.made (w : World) : NRow (w.alloc (.cells #[] 22)) (.slice (some ⟨w.heap.size, 0, none⟩) 0 0) [] :=
  World.ownsRow_made w #[] 0 (Nat.zero_le _) (Nat.zero_le _) rfl
theorem NRow.new {w w' : World} {v : Value} {ns : List Nat} (h : NRow w v ns) (hu : New w w') : NRow w' v ns := ownsRow_new h hu
/-- append of numbers: the run -/
theorem runN {w : World} {sv v : Value} {ds ns : List Nat} (ty : TypeId)
    (hb : NRow w sv ds) (hr : RdM .u32 w v ns) (hl : ds.length + ns.length ≤ 1000000000) :
    ∃ v' w', (Builtin.append_ #[23, 23] ty #[sv, v]).run Try.prog w = .ok v' w' ∧ NRow w' v' (ds ++ ns) ∧ Adds w w' sv v' := by
  obtain ⟨ao, cap, rfl, h1, h2, h3⟩ := hr
  obtain ⟨i, hi, hz, hsz, hby⟩ := info_parts infoN
  cases ao with
  | none =>
    have hc := h2 rfl
    subst hc
    have : ns = [] := List.eq_nil_of_length_eq_zero (by omega)
    subst this
    have hr := run_append_owned_none (P := Try.prog) w 0 23 ty 22 i 1 Try.underlying23 hi sv ds.length (ds.map cn) hb
    exact ⟨sv, w, hr, by simpa using hb, Adds.refl w sv⟩
  | some ad =>
    have hnews : ∀ j u, (ns.map cn)[j]? = some u → w.cell? (ad.add j) = some u := by
      intro j u hj
      have hlt : j < ns.length := by
        have := (List.getElem?_eq_some_iff.1 hj).1
        simpa using this
      obtain ⟨b, o', e, hc⟩ := h3 (by intro e; subst e; simp at hlt)
      cases e
      have hu : u = cn ns[j] := by
        simp only [List.getElem?_map, List.getElem?_eq_getElem hlt, Option.map_some, Option.some.injEq] at hj
        exact hj.symm
      subst hu
      rw [Addr.add_lit]
      exact hc j hlt
    have hone : ∀ u ∈ ns.map cn, u.oneCell' = true := by
      intro u hu
      simp only [List.mem_map] at hu
      obtain ⟨x, _, rfl⟩ := hu
      rfl
    obtain ⟨v', w', hr, ho, ha⟩ := run_append_adds (P := Try.prog) w 23 ty 22 i (.int .u32 0) 1 4 Try.underlying23 hi hz hsz hby rfl (by decide) 0 sv ds.length (ds.map cn) hb
      ad ns.length cap (ns.map cn) (by simp) hnews hone (by unfold maxLen; omega) (by omega) (Nat.zero_le _)
    refine ⟨v', w', hr, ?_, ha⟩
    unfold NRow
    rw [List.length_append, List.map_append]
    exact ho
/-- append of numbers, as one step of a region that draws its order -/
theorem stepN {ops : Array Oper} {o : Oper} {a : Act} {w : World} {K : Act → World → Prop} {Q : Exit → Act → World → Prop} {E : Prop} (s x : Operand) {sv v : Value} {ds ns : List Nat}
    (hb : NRow w sv ds) (hr : RdM .u32 w v ns) (hl : ds.length + ns.length ≤ 1000000000) (hw : Region.wanted o (yielded ops a.tmps) = true)
    (ho : o.op = .call { callee := .builtin .append, args := #[s, x], argTypes := #[23, 23] }) (hs : a.eval s = sv) (hx : a.eval x = v)
    (h : ∀ v' w', NRow w' v' (ds ++ ns) → Adds w w' sv v' → K (a.put o.dst v') w') :
    if Region.wanted o (yielded ops a.tmps) = true then Oper.wp Try.prog o a w K Q else E := by
  obtain ⟨v', w', hr, ho', ha⟩ := runN o.type hb hr hl
  rw [if_pos hw]
  unfold Oper.wp execOp
  simp only [ho, resolve, invoke, builtin, Sem.run_bind, Sem.run_pure, Result.andThen_ok, List.map_toArray, List.map_cons, List.map_nil, hs, hx, hr]
  exact h v' w' ho' ha
end Go.Proofs.Ytnngibflnnmioaa
