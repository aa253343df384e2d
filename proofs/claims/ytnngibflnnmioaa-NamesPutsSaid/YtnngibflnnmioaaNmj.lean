/-
  Names of the document as the program's: a list of names.
-/
import Derived.Test.YtnngibflnnmioaaNmc
import Derived.Test.YtnngibflnnmioaaOwn
namespace Go.Proofs.Ytnngibflnnmioaa
open Go.RowKit Go.Proofs.Leb Go.Proofs.Own
set_option maxRecDepth 100000
set_option maxHeartbeats 4000000

theorem infoNm : (Try.prog.info? 102).map (fun i => (i.zero, i.size, i.bytes)) = some (some (.agg #[.int .u32 0, .string ⟨#[]⟩]), 2, 24) := by kernel_rfl
theorem infoLc : (Try.prog.info? 91).map (fun i => (i.zero, i.size, i.bytes)) = some (some (.agg #[.int .u32 0, .slice none 0 0]), 2, 32) := by kernel_rfl
theorem blockStep {K : Act → World → Prop} {a : Act} {W : World} {o : Obj} (h : ∀ W2, New W W2 → New (W.alloc o) W2 → K a W2) : K a (W.alloc o) :=
  h _ ((Upd.refl _ _).alloc _) (Upd.refl _ _)
theorem Off.false {w : World} {v : Value} {w' : World} {B : Nat → Prop} {s : ByteArray} {u : Value} (h : FN w B u s) : FN w' (Off (fun _ => False) w v) u s := h
theorem addsFresh {w a b : World} {v v' : Value} (h : Fresh w v) (hn : New w a) (ha : Adds a b v v') : Fresh w v' := by
  intro k hk
  rcases ha.at' with e | ⟨j, e, hj⟩
  · exact h k (by rw [← e]; exact hk)
  · rw [e] at hk; cases hk; exact Nat.le_trans hn.size hj
/-- memory that was made since -/
def Since (w w' : World) : Nat → Prop := fun k => w.heap.size ≤ k ∧ k < w'.heap.size
theorem ownList_any {B : Nat → Prop} (v : Value) (xs : List (Nat × ByteArray)) (w : World) (hr : RdE 2 (E2 FN) w B v xs) (hs : xs.length ≤ 10000) :
    Calls Try.prog 47 #[v] w (fun e w' => ∃ r, e = .returned r ∧ RdE 2 (E2 FN) w' (Since w w') r xs ∧ New w w') := by
  obtain ⟨a, cap, rfl, hat⟩ := nm_at hr
  have HAT := hid hat
  clear hr hat
  go_enter Try.func47, Try.ntmps47
  go_wp2_with fail
  go_loopw [3, 4] (fun b c wr => ∃ i : Nat, c = .int .i64 i ∧ i ≤ xs.length ∧ OwE 102 2 (E2 FN) (fun _ => False) wr b (xs.take i) ∧ New w wr ∧ Fresh w b) (fun _ c _ => xs.length - (intOf c).toNat)
  case atStart => exact ⟨0, rfl, by omega, OwE.nil, Upd.refl _ _, fun k h => by cases h⟩
  case round =>
    obtain ⟨i, rfl, hi1, how, hnw, hfr⟩ := hrel
    have HF := hid hfr
    by_cases hi : i < xs.length
    · obtain ⟨b, o, rfl, hc0, hc1⟩ := HAT.out i hi
      have hg1 : xs[i]? = some xs[i] := List.getElem?_eq_getElem hi
      have hg2 : (xs.take i).length ≤ 10000 := by simp; omega
      have hg3 : xs.take (i + 1) = xs.take i ++ [xs[i]] := by rw [List.take_add_one, hg1]; rfl
      generalize hxe : xs[i] = x at *
      obtain ⟨n, s⟩ := x
      simp only at hc0 hc1
      have q0 := hid (fun w' (h : New w w') => h.cell hc0 (fun h => h))
      have q1 := hid (fun w' (h : New w w') => h.cell hc1 (fun h => h))
      generalize hpe : xs.take i = pre at *
      have HG := hid hg3
      obtain ⟨ab, cb, rfl⟩ := how.shape
      clear hg1 hg3 hxe hpe hc0 hc1 hfr
      have hn : (fun w' => New w w') wr.drew := hnw.trans (Upd.refl _ _).drew
      have hoc : OwE 102 2 (E2 FN) (fun _ => False) wr.drew (Value.slice ab pre.length cb) pre := how.new (E2.ok FN.ok) (Upd.refl _ _).drew
      clear how hnw
      go_wp2_with fail
      refine wp_region_noPanic ?_
      refine wp_region_held_drew (S := (fun w' => New w w')) (by kernel_rfl) (by first | exact hn | exact (Upd.refl _ _).drew | exact Upd.drew (by assumption)) (fun hn => ?_)
      generalize wr.drew = wd at *
      refine wpAnyH_take (i := 0) (oi := { dst := some 11, op := Op.move (Operand.tmp 3), type := 47, pos := "law.go:16", after := #[], guard := none }) (v := ?v49x1) rfl (by kernel_rfl) (by kernel_rfl) (by kernel_rfl) (fun _ _ _ h => h) (Or.inl ⟨by rfl, ?y49x1⟩) hn ?r49x1
      case y49x1 => (intro wS hS; (try go_simp); (try with_reducible rfl))
      try simp only [Act.put, List.setIfInBounds_toArray, List.set_cons_zero, List.set_cons_succ]
      refine wpAnyH_take (i := 1) (oi := { dst := some 12, op := Op.move (Operand.tmp 0), type := 42, pos := "law.go:16", after := #[], guard := none }) (v := ?v49x2) rfl (by kernel_rfl) (by kernel_rfl) (by kernel_rfl) (fun _ _ _ h => h) (Or.inl ⟨by rfl, ?y49x2⟩) hn ?r49x2
      case y49x2 => (intro wS hS; (try go_simp); (try with_reducible rfl))
      try simp only [Act.put, List.setIfInBounds_toArray, List.set_cons_zero, List.set_cons_succ]
      refine wpAnyH_take (i := 2) (oi := { dst := some 13, op := Op.move (Operand.tmp 4), type := 3, pos := "law.go:16", after := #[], guard := none }) (v := ?v49x3) rfl (by kernel_rfl) (by kernel_rfl) (by kernel_rfl) (fun _ _ _ h => h) (Or.inl ⟨by rfl, ?y49x3⟩) hn ?r49x3
      case y49x3 => (intro wS hS; (try go_simp); (try with_reducible rfl))
      try simp only [Act.put, List.setIfInBounds_toArray, List.set_cons_zero, List.set_cons_succ]
      refine wpAnyH_take (i := 3) (oi := { dst := some 14, op := Op.indexAddr 42 (Operand.tmp 12) (Operand.tmp 13), type := 0, pos := "law.go:16", after := #[{ on := 1, ground := Ground.data }, { on := 2, ground := Ground.data }], guard := none }) (v := ?v49x4) rfl (by kernel_rfl) (by kernel_rfl) (by kernel_rfl) (fun _ _ _ h => h) (Or.inl ⟨by rfl, ?y49x4⟩) hn ?r49x4
      case y49x4 => (intro wS hS; (try go_simp); (try with_reducible rfl))
      try simp only [Act.put, List.setIfInBounds_toArray, List.set_cons_zero, List.set_cons_succ]
      refine wpAnyH_take (i := 4) (oi := { dst := some 15, op := Op.fieldAddr 86 (Operand.tmp 14) 0, type := 0, pos := "law.go:16", after := #[{ on := 3, ground := Ground.data }], guard := none }) (v := ?v49x5) rfl (by kernel_rfl) (by kernel_rfl) (by kernel_rfl) (fun _ _ _ h => h) (Or.inl ⟨by rfl, ?y49x5⟩) hn ?r49x5
      case y49x5 => (intro wS hS; (try go_simp); (try with_reducible rfl))
      try simp only [Act.put, List.setIfInBounds_toArray, List.set_cons_zero, List.set_cons_succ]
      refine wpAnyH_take (i := 5) (oi := { dst := some 16, op := Op.load 22 (Operand.tmp 15), type := 22, pos := "law.go:16", after := #[{ on := 4, ground := Ground.data }], guard := none }) (v := ?v49x6) rfl (by kernel_rfl) (by kernel_rfl) (by kernel_rfl) (fun _ _ _ h => h) (Or.inl ⟨by rfl, ?y49x6⟩) hn ?r49x6
      case y49x6 => (intro wS hS; have c0 := q0.out _ hS; (try go_simp); (try with_reducible rfl))
      try simp only [Act.put, List.setIfInBounds_toArray, List.set_cons_zero, List.set_cons_succ]
      refine wpAnyH_take (i := 6) (oi := { dst := some 17, op := Op.move (Operand.tmp 0), type := 42, pos := "law.go:16", after := #[], guard := none }) (v := ?v49x7) rfl (by kernel_rfl) (by kernel_rfl) (by kernel_rfl) (fun _ _ _ h => h) (Or.inl ⟨by rfl, ?y49x7⟩) hn ?r49x7
      case y49x7 => (intro wS hS; (try go_simp); (try with_reducible rfl))
      try simp only [Act.put, List.setIfInBounds_toArray, List.set_cons_zero, List.set_cons_succ]
      refine wpAnyH_take (i := 7) (oi := { dst := some 18, op := Op.move (Operand.tmp 4), type := 3, pos := "law.go:16", after := #[], guard := none }) (v := ?v49x8) rfl (by kernel_rfl) (by kernel_rfl) (by kernel_rfl) (fun _ _ _ h => h) (Or.inl ⟨by rfl, ?y49x8⟩) hn ?r49x8
      case y49x8 => (intro wS hS; (try go_simp); (try with_reducible rfl))
      try simp only [Act.put, List.setIfInBounds_toArray, List.set_cons_zero, List.set_cons_succ]
      refine wpAnyH_take (i := 8) (oi := { dst := some 19, op := Op.indexAddr 42 (Operand.tmp 17) (Operand.tmp 18), type := 0, pos := "law.go:16", after := #[{ on := 6, ground := Ground.data }, { on := 7, ground := Ground.data }], guard := none }) (v := ?v49x9) rfl (by kernel_rfl) (by kernel_rfl) (by kernel_rfl) (fun _ _ _ h => h) (Or.inl ⟨by rfl, ?y49x9⟩) hn ?r49x9
      case y49x9 => (intro wS hS; (try go_simp); (try with_reducible rfl))
      try simp only [Act.put, List.setIfInBounds_toArray, List.set_cons_zero, List.set_cons_succ]
      refine wpAnyH_take (i := 9) (oi := { dst := some 20, op := Op.fieldAddr 86 (Operand.tmp 19) 1, type := 0, pos := "law.go:16", after := #[{ on := 8, ground := Ground.data }], guard := none }) (v := ?v49x10) rfl (by kernel_rfl) (by kernel_rfl) (by kernel_rfl) (fun _ _ _ h => h) (Or.inl ⟨by rfl, ?y49x10⟩) hn ?r49x10
      case y49x10 => (intro wS hS; (try go_simp); (try with_reducible rfl))
      try simp only [Act.put, List.setIfInBounds_toArray, List.set_cons_zero, List.set_cons_succ]
      refine wpAnyH_take (i := 10) (oi := { dst := some 21, op := Op.load 9 (Operand.tmp 20), type := 9, pos := "law.go:16", after := #[{ on := 9, ground := Ground.data }], guard := none }) (v := ?v49x11) rfl (by kernel_rfl) (by kernel_rfl) (by kernel_rfl) (fun _ _ _ h => h) (Or.inl ⟨by rfl, ?y49x11⟩) hn ?r49x11
      case y49x11 => (intro wS hS; have c1 := q1.out _ hS; (try go_simp); (try with_reducible rfl))
      try simp only [Act.put, List.setIfInBounds_toArray, List.set_cons_zero, List.set_cons_succ]
      refine wpAnyH_take (i := 11) (oi := { dst := some 22, op := Op.build 102 #[(0, Operand.tmp 16), (1, Operand.tmp 21)], type := 102, pos := "law.go:16", after := #[{ on := 5, ground := Ground.data }, { on := 10, ground := Ground.data }], guard := none }) (v := ?v49x12) rfl (by kernel_rfl) (by kernel_rfl) (by kernel_rfl) (fun _ _ _ h => h) (Or.inl ⟨by rfl, ?y49x12⟩) hn ?r49x12
      case y49x12 => (intro wS hS; (try go_simp); (try with_reducible rfl))
      try simp only [Act.put, List.setIfInBounds_toArray, List.set_cons_zero, List.set_cons_succ]
      refine wpAnyH_ready (rs := [12]) (by kernel_rfl) (by simp) ?_
      refine AllReadyH.cons (o := { dst := some 23, op := Op.buildSlice 47 1 #[(0, Operand.tmp 22)], type := 47, pos := "law.go:16", after := #[{ on := 11, ground := Ground.data }], guard := none }) rfl (fun K hK => ?_) AllReadyH.nil
      go_simp
      refine blockStep ?_
      intro ws hnr hnb
      have hn := hn.trans hnr
      have hoc := hoc.new (E2.ok FN.ok) hnr
      refine hK.out _ _ (by first | exact hn | exact Upd.alloc hn _) (fun hn => ?_)
      clear hK K
      try simp only [Act.put, List.setIfInBounds_toArray, List.set_cons_zero, List.set_cons_succ]
      refine wpAnyH_ready (rs := [13]) (by kernel_rfl) (by simp) ?_
      refine AllReadyH.cons (o := { dst := some 24, op := Op.call { callee := Callee.builtin Builtin.append, args := #[Operand.tmp 11, Operand.tmp 23], argTypes := #[47, 47] }, type := 47, pos := "law.go:16", after := #[{ on := 0, ground := Ground.data }, { on := 12, ground := Ground.data }], guard := none }) rfl (fun K hK => ?_) AllReadyH.nil
      refine step_appendE (E2.ok FN.ok) 47 102 2 24 (.agg #[.int .u32 0, .string ⟨#[]⟩]) infoNm Try.underlying47 rfl (by decide) (.tmp 11) (.tmp 23) rfl rfl _ pre rfl hoc (n, s) [.int .u32 (n : Nat), .string s] ⟨_, rfl, rfl⟩ hnb rfl rfl (by simp [Value.oneCell']) (by unfold maxLen; omega) (by omega) ?_
      intro v' w' ho' ha
      have HF2 := hid (addsFresh HF.out hn ha)
      have HN2 := hid (Upd.newAdds hn HF.out ha)
      have hn := HN2.out
      refine hK.out _ _ (by first | exact hn | exact Upd.alloc hn _) (fun hn => ?_)
      clear hK K
      try simp only [Act.put, List.setIfInBounds_toArray, List.set_cons_zero, List.set_cons_succ]
      refine wpAnyH_take (i := 14) (oi := { dst := some 3, op := Op.assign (Operand.tmp 24), type := 47, pos := "law.go:16", after := #[{ on := 13, ground := Ground.data }, { on := 13, ground := Ground.chain }, { on := 0, ground := Ground.phase }, { on := 1, ground := Ground.phase }, { on := 2, ground := Ground.phase }, { on := 3, ground := Ground.phase }, { on := 4, ground := Ground.phase }, { on := 5, ground := Ground.phase }, { on := 6, ground := Ground.phase }, { on := 7, ground := Ground.phase }, { on := 8, ground := Ground.phase }, { on := 9, ground := Ground.phase }, { on := 10, ground := Ground.phase }, { on := 11, ground := Ground.phase }, { on := 12, ground := Ground.phase }, { on := 13, ground := Ground.phase }], guard := none }) (v := ?v49x13) rfl (by kernel_rfl) (by kernel_rfl) (by kernel_rfl) (fun _ _ _ h => h) (Or.inl ⟨by rfl, ?y49x13⟩) hn ?r49x13
      case y49x13 => (intro wS hS; (try go_simp); (try with_reducible rfl))
      try simp only [Act.put, List.setIfInBounds_toArray, List.set_cons_zero, List.set_cons_succ]
      refine wpAnyH_done (by kernel_rfl) ?_ _
      refine NoPanic.normal ?_
      have HO := hid ho'
      clear ho' ha hoc hn
      go_wp2_with fail
      go_roundw
      case rel => exact ⟨i + 1, by go_num, by omega, by rw [HG.out]; exact HO.out, HN2.out, HF2.out⟩
      case measure => (simp [intOf]; omega)
    · have e : i = xs.length := by omega
      subst e
      rw [List.take_length] at how
      have HO := hid how
      have HN := hid hnw
      clear how hnw
      obtain ⟨ab, cb, rfl⟩ := HO.out.shape
      go_wp2_with fail
      go_ret
      refine ⟨_, rfl, RdE.mono (E2.ok FN.ok) (HO.out.rd (E2.ok FN.ok)) ?_, HN.out⟩
      rintro k ⟨h1, h2 | h2⟩
      · exact absurd h2 (fun h => h)
      · exact ⟨HF.out k h2, h1⟩
end Go.Proofs.Ytnngibflnnmioaa
