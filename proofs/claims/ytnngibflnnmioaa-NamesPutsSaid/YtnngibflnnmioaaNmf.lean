/-
  Names: the document's answers: which may be.
-/
import Derived.Test.YtnngibflnnmioaaNmc
import Derived.Test.YtnngibflnnmioaaCut
namespace Go.Proofs.Ytnngibflnnmioaa
open Go.RowKit Go.Proofs.Leb Go.Proofs.Own
set_option maxRecDepth 100000
set_option maxHeartbeats 4000000

theorem SameP.mk2 {q : Prop} {b : Bool} (hb : b = true ↔ q) {w : World} {e : Ending} {w' : World} (h : SameP q w e w') : IsNew b w e w' := by
  obtain ⟨c, rfl, hc, hn⟩ := h
  have : c = b := by
    cases c <;> cases b <;> simp_all
  subst this
  exact ⟨rfl, hn⟩
theorem rText_any (s : ByteArray) (w : World) (hs : s.size ≤ 1000000) : Calls Try.prog 48 #[.string s] w (IsNew (textV s) w) := by
  have HV := hid (fun w => rNeed_any s w (by omega))
  obtain ⟨t, ht⟩ : ∃ t, textV s = t := ⟨_, rfl⟩
  rw [ht]
  obtain ⟨n, hn⟩ : ∃ n, (Utf.need s.data.toList).1 = n := ⟨_, rfl⟩
  obtain ⟨b, hb⟩ : ∃ b, (Utf.need s.data.toList).2 = b := ⟨_, rfl⟩
  have HT : Hid ((b && decide (n = 0)) = t) := by show _ = _; rw [← ht, ← hn, ← hb]; rfl
  rw [hn, hb] at HV
  clear ht hn hb
  go_enter Try.func48, Try.ntmps48
  go_wp2_with fail
  refine (HV.out _).mono ?_
  rintro e w2 ⟨rfl, hn2⟩
  have HN := hid hn2
  clear hn2
  cases b with
  | false =>
    go_wp2_with fail
    go_ret
    exact ⟨by rw [← HT.out]; rfl, HN.out⟩
  | true =>
    by_cases h0 : n = 0
    · have e0 : ((n : Int) == 0) = true := by rw [h0]; rfl
      have H0 := hid h0
      clear h0
      go_wp2_with fail
      go_ret
      exact ⟨by rw [← HT.out, H0.out]; rfl, HN.out⟩
    · have e0 : ((n : Int) == 0) = false := by rw [beq_eq_false_iff_ne]; omega
      have H0 := hid h0
      clear h0
      go_wp2_with fail
      go_ret
      exact ⟨by rw [← HT.out, decide_eq_false H0.out]; rfl, HN.out⟩
theorem rList_any {B : Nat → Prop} (v : Value) (xs : List (Nat × ByteArray)) (w : World) (hr : RdE 2 (E2 FN) w B v xs) (hs : SzN xs) :
    Calls Try.prog 49 #[v] w (SameP (NRight xs) w) := by
  obtain ⟨a, cap, rfl, hat⟩ := nm_at hr
  have HAT := hid hat
  have HSZ := hid hs
  have hl := hs.1
  clear hr hs hat
  go_enter Try.func49, Try.ntmps49
  go_wp2_with fail
  go_loopw [3] (fun c wr => ∃ i : Nat, c = .int .i64 i ∧ i ≤ xs.length ∧ (∀ k (h : k < xs.length), k < i → textV xs[k].2 = true) ∧ (∀ k (h : k + 1 < xs.length), k + 1 < i → (xs[k]).1 < (xs[k + 1]).1) ∧ New w wr) (fun c _ => xs.length - (intOf c).toNat)
  case atStart => exact ⟨0, rfl, by omega, fun k _ h => absurd h (by omega), fun k _ h => absurd h (by omega), Upd.refl _ _⟩
  case round =>
    obtain ⟨i, rfl, hi1, htx, hno, hnw⟩ := hrel
    by_cases hi : i < xs.length
    · obtain ⟨b, o, rfl, hc0, hc1⟩ := HAT.out i hi
      have HT := hid (fun w => rText_any xs[i].2 w (by have := HSZ.out.2 _ (List.getElem_mem hi); omega))
      have HN1 : Hid (NRight xs → textV xs[i].2 = true) := fun h => h.2 _ (List.getElem_mem hi)
      have HTX : Hid (textV xs[i].2 = true → ∀ k (h : k < xs.length), k < i + 1 → textV xs[k].2 = true) := by
        show textV xs[i].2 = true → ∀ k (h : k < xs.length), k < i + 1 → textV xs[k].2 = true
        intro h0 k h h1
        rcases Nat.lt_or_ge k i with h3 | h3
        · exact htx k h h3
        · obtain rfl : k = i := by omega
          exact h0
      have HNO := hid hno
      have HW := hid hnw
      have q0 := hid hc0
      have q1 := hid hc1
      have hn : New w wr.drew := hnw.drew
      clear htx hno hnw hc0 hc1
      obtain ⟨t, ht⟩ : ∃ t, textV xs[i].2 = t := ⟨_, rfl⟩
      rw [ht] at HT HTX HN1
      clear ht
      cases t with
      | false =>
        generalize xs[i] = x at *
        obtain ⟨m, y⟩ := x
        simp only at q0 q1 HT
        go_wp2_with fail
        refine wp_region_noPanic ?_
        refine wp_region_held_drew (S := (New w)) (by kernel_rfl) (by first | exact hn | exact (Upd.refl _ _).drew | exact Upd.drew (by assumption)) (fun hn => ?_)
        generalize wr.drew = wd at *
        refine wpAnyH_take (i := 0) (oi := { dst := some 10, op := Op.move (Operand.tmp 0), type := 42, pos := "ref.go:39", after := #[], guard := none }) (v := ?v52x1) rfl (by kernel_rfl) (by kernel_rfl) (by kernel_rfl) (fun _ _ _ h => h) (Or.inl ⟨by rfl, ?y52x1⟩) hn ?r52x1
        case y52x1 => (intro wS hS; (try go_simp); (try with_reducible rfl))
        try simp only [Act.put, List.setIfInBounds_toArray, List.set_cons_zero, List.set_cons_succ]
        refine wpAnyH_take (i := 1) (oi := { dst := some 11, op := Op.move (Operand.tmp 3), type := 3, pos := "ref.go:39", after := #[], guard := none }) (v := ?v52x2) rfl (by kernel_rfl) (by kernel_rfl) (by kernel_rfl) (fun _ _ _ h => h) (Or.inl ⟨by rfl, ?y52x2⟩) hn ?r52x2
        case y52x2 => (intro wS hS; (try go_simp); (try with_reducible rfl))
        try simp only [Act.put, List.setIfInBounds_toArray, List.set_cons_zero, List.set_cons_succ]
        refine wpAnyH_take (i := 2) (oi := { dst := some 12, op := Op.indexAddr 42 (Operand.tmp 10) (Operand.tmp 11), type := 0, pos := "ref.go:39", after := #[{ on := 0, ground := Ground.data }, { on := 1, ground := Ground.data }], guard := none }) (v := ?v52x3) rfl (by kernel_rfl) (by kernel_rfl) (by kernel_rfl) (fun _ _ _ h => h) (Or.inl ⟨by rfl, ?y52x3⟩) hn ?r52x3
        case y52x3 => (intro wS hS; (try go_simp); (try with_reducible rfl))
        try simp only [Act.put, List.setIfInBounds_toArray, List.set_cons_zero, List.set_cons_succ]
        refine wpAnyH_take (i := 3) (oi := { dst := some 13, op := Op.fieldAddr 86 (Operand.tmp 12) 1, type := 0, pos := "ref.go:39", after := #[{ on := 2, ground := Ground.data }], guard := none }) (v := ?v52x4) rfl (by kernel_rfl) (by kernel_rfl) (by kernel_rfl) (fun _ _ _ h => h) (Or.inl ⟨by rfl, ?y52x4⟩) hn ?r52x4
        case y52x4 => (intro wS hS; (try go_simp); (try with_reducible rfl))
        try simp only [Act.put, List.setIfInBounds_toArray, List.set_cons_zero, List.set_cons_succ]
        refine wpAnyH_take (i := 4) (oi := { dst := some 14, op := Op.load 9 (Operand.tmp 13), type := 9, pos := "ref.go:39", after := #[{ on := 3, ground := Ground.data }], guard := none }) (v := ?v52x5) rfl (by kernel_rfl) (by kernel_rfl) (by kernel_rfl) (fun _ _ _ h => h) (Or.inl ⟨by rfl, ?y52x5⟩) hn ?r52x5
        case y52x5 => (intro wS hS; have c1 := hS.cell q1.out (fun h => h); (try go_simp); (try with_reducible rfl))
        try simp only [Act.put, List.setIfInBounds_toArray, List.set_cons_zero, List.set_cons_succ]
        refine wpAnyH_ready (rs := [5]) (by kernel_rfl) (by simp) ?_
        refine AllReadyH.cons (o := { dst := some 15, op := Op.call { callee := Callee.value (Operand.func 48), args := #[Operand.tmp 14], argTypes := #[9] }, type := 4, pos := "ref.go:39", after := #[{ on := 4, ground := Ground.data }], guard := none }) rfl (fun K hK => ?_) AllReadyH.nil
        go_simp
        refine (HT.out _).mono ?_
        rintro e wq ⟨rfl, hnq⟩
        go_wp2_with fail
        have hn := New.trans hn hnq
        refine hK.out _ _ (by first | exact hn | exact Upd.alloc hn _) (fun hn => ?_)
        clear hK K
        try simp only [Act.put, List.setIfInBounds_toArray, List.set_cons_zero, List.set_cons_succ]
        refine wpAnyH_take (i := 6) (oi := { dst := some 16, op := Op.unOp UnOp.not 4 (Operand.tmp 15), type := 4, pos := "ref.go:39", after := #[{ on := 5, ground := Ground.data }], guard := none }) (v := ?v52x6) rfl (by kernel_rfl) (by kernel_rfl) (by kernel_rfl) (fun _ _ _ h => h) (Or.inl ⟨by rfl, ?y52x6⟩) hn ?r52x6
        case y52x6 => (intro wS hS; (try go_simp); (try with_reducible rfl))
        try simp only [Act.put, List.setIfInBounds_toArray, List.set_cons_zero, List.set_cons_succ]
        refine wpAnyH_take (i := 7) (oi := { dst := some 17, op := Op.move (Operand.tmp 16), type := 4, pos := "ref.go:39", after := #[{ on := 6, ground := Ground.data }, { on := 5, ground := Ground.chain }], guard := none }) (v := ?v52x7) rfl (by kernel_rfl) (by kernel_rfl) (by kernel_rfl) (fun _ _ _ h => h) (Or.inl ⟨by rfl, ?y52x7⟩) hn ?r52x7
        case y52x7 => (intro wS hS; (try go_simp); (try with_reducible rfl))
        try simp only [Act.put, List.setIfInBounds_toArray, List.set_cons_zero, List.set_cons_succ]
        refine wpAnyH_take (i := 8) (oi := { dst := some 18, op := Op.move (Operand.tmp 3), type := 3, pos := "ref.go:39", after := #[{ on := 7, ground := Ground.guard }], guard := some (7, false) }) (v := undef) rfl (by kernel_rfl) (by kernel_rfl) (by kernel_rfl) (fun _ _ _ h => h) (Or.inr ⟨by rfl, rfl⟩) hn ?_
        try simp only [Act.put, List.setIfInBounds_toArray, List.set_cons_zero, List.set_cons_succ]
        refine wpAnyH_take (i := 9) (oi := { dst := some 19, op := Op.binOp BinOp.gtr 3 (Operand.tmp 18) (Operand.const (Value.int IntKind.i64 0)) 3, type := 4, pos := "ref.go:39", after := #[{ on := 8, ground := Ground.data }, { on := 7, ground := Ground.guard }], guard := some (7, false) }) (v := undef) rfl (by kernel_rfl) (by kernel_rfl) (by kernel_rfl) (fun _ _ _ h => h) (Or.inr ⟨by rfl, rfl⟩) hn ?_
        try simp only [Act.put, List.setIfInBounds_toArray, List.set_cons_zero, List.set_cons_succ]
        refine wpAnyH_take (i := 10) (oi := { dst := some 20, op := Op.move (Operand.tmp 19), type := 4, pos := "ref.go:39", after := #[{ on := 9, ground := Ground.data }, { on := 7, ground := Ground.chain }, { on := 7, ground := Ground.guard }], guard := some (7, false) }) (v := undef) rfl (by kernel_rfl) (by kernel_rfl) (by kernel_rfl) (fun _ _ _ h => h) (Or.inr ⟨by rfl, rfl⟩) hn ?_
        try simp only [Act.put, List.setIfInBounds_toArray, List.set_cons_zero, List.set_cons_succ]
        refine wpAnyH_take (i := 11) (oi := { dst := some 21, op := Op.move (Operand.tmp 0), type := 42, pos := "ref.go:39", after := #[{ on := 10, ground := Ground.guard }], guard := some (10, true) }) (v := undef) rfl (by kernel_rfl) (by kernel_rfl) (by kernel_rfl) (fun _ _ _ h => h) (Or.inr ⟨by rfl, rfl⟩) hn ?_
        try simp only [Act.put, List.setIfInBounds_toArray, List.set_cons_zero, List.set_cons_succ]
        refine wpAnyH_take (i := 12) (oi := { dst := some 22, op := Op.move (Operand.tmp 3), type := 3, pos := "ref.go:39", after := #[{ on := 10, ground := Ground.guard }], guard := some (10, true) }) (v := undef) rfl (by kernel_rfl) (by kernel_rfl) (by kernel_rfl) (fun _ _ _ h => h) (Or.inr ⟨by rfl, rfl⟩) hn ?_
        try simp only [Act.put, List.setIfInBounds_toArray, List.set_cons_zero, List.set_cons_succ]
        refine wpAnyH_take (i := 13) (oi := { dst := some 23, op := Op.indexAddr 42 (Operand.tmp 21) (Operand.tmp 22), type := 0, pos := "ref.go:39", after := #[{ on := 11, ground := Ground.data }, { on := 12, ground := Ground.data }, { on := 10, ground := Ground.guard }], guard := some (10, true) }) (v := undef) rfl (by kernel_rfl) (by kernel_rfl) (by kernel_rfl) (fun _ _ _ h => h) (Or.inr ⟨by rfl, rfl⟩) hn ?_
        try simp only [Act.put, List.setIfInBounds_toArray, List.set_cons_zero, List.set_cons_succ]
        refine wpAnyH_take (i := 14) (oi := { dst := some 24, op := Op.fieldAddr 86 (Operand.tmp 23) 0, type := 0, pos := "ref.go:39", after := #[{ on := 13, ground := Ground.data }, { on := 10, ground := Ground.guard }], guard := some (10, true) }) (v := undef) rfl (by kernel_rfl) (by kernel_rfl) (by kernel_rfl) (fun _ _ _ h => h) (Or.inr ⟨by rfl, rfl⟩) hn ?_
        try simp only [Act.put, List.setIfInBounds_toArray, List.set_cons_zero, List.set_cons_succ]
        refine wpAnyH_take (i := 15) (oi := { dst := some 25, op := Op.load 22 (Operand.tmp 24), type := 22, pos := "ref.go:39", after := #[{ on := 14, ground := Ground.data }, { on := 10, ground := Ground.guard }], guard := some (10, true) }) (v := undef) rfl (by kernel_rfl) (by kernel_rfl) (by kernel_rfl) (fun _ _ _ h => h) (Or.inr ⟨by rfl, rfl⟩) hn ?_
        try simp only [Act.put, List.setIfInBounds_toArray, List.set_cons_zero, List.set_cons_succ]
        refine wpAnyH_take (i := 16) (oi := { dst := some 26, op := Op.move (Operand.tmp 0), type := 42, pos := "ref.go:39", after := #[{ on := 10, ground := Ground.guard }], guard := some (10, true) }) (v := undef) rfl (by kernel_rfl) (by kernel_rfl) (by kernel_rfl) (fun _ _ _ h => h) (Or.inr ⟨by rfl, rfl⟩) hn ?_
        try simp only [Act.put, List.setIfInBounds_toArray, List.set_cons_zero, List.set_cons_succ]
        refine wpAnyH_take (i := 17) (oi := { dst := some 27, op := Op.move (Operand.tmp 3), type := 3, pos := "ref.go:39", after := #[{ on := 10, ground := Ground.guard }], guard := some (10, true) }) (v := undef) rfl (by kernel_rfl) (by kernel_rfl) (by kernel_rfl) (fun _ _ _ h => h) (Or.inr ⟨by rfl, rfl⟩) hn ?_
        try simp only [Act.put, List.setIfInBounds_toArray, List.set_cons_zero, List.set_cons_succ]
        refine wpAnyH_take (i := 18) (oi := { dst := some 28, op := Op.binOp BinOp.sub 3 (Operand.tmp 27) (Operand.const (Value.int IntKind.i64 1)) 3, type := 3, pos := "ref.go:39", after := #[{ on := 17, ground := Ground.data }, { on := 10, ground := Ground.guard }], guard := some (10, true) }) (v := undef) rfl (by kernel_rfl) (by kernel_rfl) (by kernel_rfl) (fun _ _ _ h => h) (Or.inr ⟨by rfl, rfl⟩) hn ?_
        try simp only [Act.put, List.setIfInBounds_toArray, List.set_cons_zero, List.set_cons_succ]
        refine wpAnyH_take (i := 19) (oi := { dst := some 29, op := Op.indexAddr 42 (Operand.tmp 26) (Operand.tmp 28), type := 0, pos := "ref.go:39", after := #[{ on := 16, ground := Ground.data }, { on := 18, ground := Ground.data }, { on := 10, ground := Ground.guard }], guard := some (10, true) }) (v := undef) rfl (by kernel_rfl) (by kernel_rfl) (by kernel_rfl) (fun _ _ _ h => h) (Or.inr ⟨by rfl, rfl⟩) hn ?_
        try simp only [Act.put, List.setIfInBounds_toArray, List.set_cons_zero, List.set_cons_succ]
        refine wpAnyH_take (i := 20) (oi := { dst := some 30, op := Op.fieldAddr 86 (Operand.tmp 29) 0, type := 0, pos := "ref.go:39", after := #[{ on := 19, ground := Ground.data }, { on := 10, ground := Ground.guard }], guard := some (10, true) }) (v := undef) rfl (by kernel_rfl) (by kernel_rfl) (by kernel_rfl) (fun _ _ _ h => h) (Or.inr ⟨by rfl, rfl⟩) hn ?_
        try simp only [Act.put, List.setIfInBounds_toArray, List.set_cons_zero, List.set_cons_succ]
        refine wpAnyH_take (i := 21) (oi := { dst := some 31, op := Op.load 22 (Operand.tmp 30), type := 22, pos := "ref.go:39", after := #[{ on := 20, ground := Ground.data }, { on := 10, ground := Ground.guard }], guard := some (10, true) }) (v := undef) rfl (by kernel_rfl) (by kernel_rfl) (by kernel_rfl) (fun _ _ _ h => h) (Or.inr ⟨by rfl, rfl⟩) hn ?_
        try simp only [Act.put, List.setIfInBounds_toArray, List.set_cons_zero, List.set_cons_succ]
        refine wpAnyH_take (i := 22) (oi := { dst := some 32, op := Op.binOp BinOp.leq 22 (Operand.tmp 25) (Operand.tmp 31) 22, type := 4, pos := "ref.go:39", after := #[{ on := 15, ground := Ground.data }, { on := 21, ground := Ground.data }, { on := 10, ground := Ground.guard }], guard := some (10, true) }) (v := undef) rfl (by kernel_rfl) (by kernel_rfl) (by kernel_rfl) (fun _ _ _ h => h) (Or.inr ⟨by rfl, rfl⟩) hn ?_
        try simp only [Act.put, List.setIfInBounds_toArray, List.set_cons_zero, List.set_cons_succ]
        refine wpAnyH_take (i := 23) (oi := { dst := some 33, op := Op.pick (Operand.tmp 20) (Operand.tmp 32) (Operand.const (Value.bool false)), type := 4, pos := "ref.go:39", after := #[{ on := 10, ground := Ground.data }, { on := 22, ground := Ground.data }, { on := 7, ground := Ground.guard }], guard := some (7, false) }) (v := undef) rfl (by kernel_rfl) (by kernel_rfl) (by kernel_rfl) (fun _ _ _ h => h) (Or.inr ⟨by rfl, rfl⟩) hn ?_
        try simp only [Act.put, List.setIfInBounds_toArray, List.set_cons_zero, List.set_cons_succ]
        refine wpAnyH_take (i := 24) (oi := { dst := some 34, op := Op.pick (Operand.tmp 17) (Operand.const (Value.bool true)) (Operand.tmp 33), type := 4, pos := "ref.go:39", after := #[{ on := 7, ground := Ground.data }, { on := 23, ground := Ground.data }], guard := none }) (v := ?v52x24) rfl (by kernel_rfl) (by kernel_rfl) (by kernel_rfl) (fun _ _ _ h => h) (Or.inl ⟨by rfl, ?y52x24⟩) hn ?r52x24
        case y52x24 => (intro wS hS; (try go_simp); (try with_reducible rfl))
        try simp only [Act.put, List.setIfInBounds_toArray, List.set_cons_zero, List.set_cons_succ]
        refine wpAnyH_done (by kernel_rfl) ?_ _
        refine NoPanic.normal ?_
        have HH := hid hn
        clear hn
        go_wp2_with fail
        go_ret
        exact ⟨_, rfl, iff_of_false (by decide) (fun h => Bool.noConfusion (HN1.out h)), HH.out⟩
      | true =>
        rcases Nat.eq_zero_or_pos i with h0 | h0
        · have HNE : Hid (∀ k (h : k + 1 < xs.length), k + 1 < i + 1 → (xs[k]).1 < (xs[k + 1]).1) := fun k h h1 => absurd h1 (by omega)
          subst h0
          generalize xs[0] = x at *
          obtain ⟨m, y⟩ := x
          simp only at q0 q1 HT
          go_wp2_with fail
          refine wp_region_noPanic ?_
          refine wp_region_held_drew (S := (New w)) (by kernel_rfl) (by first | exact hn | exact (Upd.refl _ _).drew | exact Upd.drew (by assumption)) (fun hn => ?_)
          generalize wr.drew = wd at *
          refine wpAnyH_take (i := 0) (oi := { dst := some 10, op := Op.move (Operand.tmp 0), type := 42, pos := "ref.go:39", after := #[], guard := none }) (v := ?v53x1) rfl (by kernel_rfl) (by kernel_rfl) (by kernel_rfl) (fun _ _ _ h => h) (Or.inl ⟨by rfl, ?y53x1⟩) hn ?r53x1
          case y53x1 => (intro wS hS; (try go_simp); (try with_reducible rfl))
          try simp only [Act.put, List.setIfInBounds_toArray, List.set_cons_zero, List.set_cons_succ]
          refine wpAnyH_take (i := 1) (oi := { dst := some 11, op := Op.move (Operand.tmp 3), type := 3, pos := "ref.go:39", after := #[], guard := none }) (v := ?v53x2) rfl (by kernel_rfl) (by kernel_rfl) (by kernel_rfl) (fun _ _ _ h => h) (Or.inl ⟨by rfl, ?y53x2⟩) hn ?r53x2
          case y53x2 => (intro wS hS; (try go_simp); (try with_reducible rfl))
          try simp only [Act.put, List.setIfInBounds_toArray, List.set_cons_zero, List.set_cons_succ]
          refine wpAnyH_take (i := 2) (oi := { dst := some 12, op := Op.indexAddr 42 (Operand.tmp 10) (Operand.tmp 11), type := 0, pos := "ref.go:39", after := #[{ on := 0, ground := Ground.data }, { on := 1, ground := Ground.data }], guard := none }) (v := ?v53x3) rfl (by kernel_rfl) (by kernel_rfl) (by kernel_rfl) (fun _ _ _ h => h) (Or.inl ⟨by rfl, ?y53x3⟩) hn ?r53x3
          case y53x3 => (intro wS hS; (try go_simp); (try with_reducible rfl))
          try simp only [Act.put, List.setIfInBounds_toArray, List.set_cons_zero, List.set_cons_succ]
          refine wpAnyH_take (i := 3) (oi := { dst := some 13, op := Op.fieldAddr 86 (Operand.tmp 12) 1, type := 0, pos := "ref.go:39", after := #[{ on := 2, ground := Ground.data }], guard := none }) (v := ?v53x4) rfl (by kernel_rfl) (by kernel_rfl) (by kernel_rfl) (fun _ _ _ h => h) (Or.inl ⟨by rfl, ?y53x4⟩) hn ?r53x4
          case y53x4 => (intro wS hS; (try go_simp); (try with_reducible rfl))
          try simp only [Act.put, List.setIfInBounds_toArray, List.set_cons_zero, List.set_cons_succ]
          refine wpAnyH_take (i := 4) (oi := { dst := some 14, op := Op.load 9 (Operand.tmp 13), type := 9, pos := "ref.go:39", after := #[{ on := 3, ground := Ground.data }], guard := none }) (v := ?v53x5) rfl (by kernel_rfl) (by kernel_rfl) (by kernel_rfl) (fun _ _ _ h => h) (Or.inl ⟨by rfl, ?y53x5⟩) hn ?r53x5
          case y53x5 => (intro wS hS; have c1 := hS.cell q1.out (fun h => h); (try go_simp); (try with_reducible rfl))
          try simp only [Act.put, List.setIfInBounds_toArray, List.set_cons_zero, List.set_cons_succ]
          refine wpAnyH_ready (rs := [5]) (by kernel_rfl) (by simp) ?_
          refine AllReadyH.cons (o := { dst := some 15, op := Op.call { callee := Callee.value (Operand.func 48), args := #[Operand.tmp 14], argTypes := #[9] }, type := 4, pos := "ref.go:39", after := #[{ on := 4, ground := Ground.data }], guard := none }) rfl (fun K hK => ?_) AllReadyH.nil
          go_simp
          refine (HT.out _).mono ?_
          rintro e wq ⟨rfl, hnq⟩
          go_wp2_with fail
          have hn := New.trans hn hnq
          refine hK.out _ _ (by first | exact hn | exact Upd.alloc hn _) (fun hn => ?_)
          clear hK K
          try simp only [Act.put, List.setIfInBounds_toArray, List.set_cons_zero, List.set_cons_succ]
          refine wpAnyH_take (i := 6) (oi := { dst := some 16, op := Op.unOp UnOp.not 4 (Operand.tmp 15), type := 4, pos := "ref.go:39", after := #[{ on := 5, ground := Ground.data }], guard := none }) (v := ?v53x6) rfl (by kernel_rfl) (by kernel_rfl) (by kernel_rfl) (fun _ _ _ h => h) (Or.inl ⟨by rfl, ?y53x6⟩) hn ?r53x6
          case y53x6 => (intro wS hS; (try go_simp); (try with_reducible rfl))
          try simp only [Act.put, List.setIfInBounds_toArray, List.set_cons_zero, List.set_cons_succ]
          refine wpAnyH_take (i := 7) (oi := { dst := some 17, op := Op.move (Operand.tmp 16), type := 4, pos := "ref.go:39", after := #[{ on := 6, ground := Ground.data }, { on := 5, ground := Ground.chain }], guard := none }) (v := ?v53x7) rfl (by kernel_rfl) (by kernel_rfl) (by kernel_rfl) (fun _ _ _ h => h) (Or.inl ⟨by rfl, ?y53x7⟩) hn ?r53x7
          case y53x7 => (intro wS hS; (try go_simp); (try with_reducible rfl))
          try simp only [Act.put, List.setIfInBounds_toArray, List.set_cons_zero, List.set_cons_succ]
          refine wpAnyH_take (i := 8) (oi := { dst := some 18, op := Op.move (Operand.tmp 3), type := 3, pos := "ref.go:39", after := #[{ on := 7, ground := Ground.guard }], guard := some (7, false) }) (v := ?v53x8) rfl (by kernel_rfl) (by kernel_rfl) (by kernel_rfl) (fun _ _ _ h => h) (Or.inl ⟨by rfl, ?y53x8⟩) hn ?r53x8
          case y53x8 => (intro wS hS; (try go_simp); (try with_reducible rfl))
          try simp only [Act.put, List.setIfInBounds_toArray, List.set_cons_zero, List.set_cons_succ]
          refine wpAnyH_take (i := 9) (oi := { dst := some 19, op := Op.binOp BinOp.gtr 3 (Operand.tmp 18) (Operand.const (Value.int IntKind.i64 0)) 3, type := 4, pos := "ref.go:39", after := #[{ on := 8, ground := Ground.data }, { on := 7, ground := Ground.guard }], guard := some (7, false) }) (v := ?v53x9) rfl (by kernel_rfl) (by kernel_rfl) (by kernel_rfl) (fun _ _ _ h => h) (Or.inl ⟨by rfl, ?y53x9⟩) hn ?r53x9
          case y53x9 => (intro wS hS; (try go_simp); (try with_reducible rfl))
          try simp only [Act.put, List.setIfInBounds_toArray, List.set_cons_zero, List.set_cons_succ]
          refine wpAnyH_take (i := 10) (oi := { dst := some 20, op := Op.move (Operand.tmp 19), type := 4, pos := "ref.go:39", after := #[{ on := 9, ground := Ground.data }, { on := 7, ground := Ground.chain }, { on := 7, ground := Ground.guard }], guard := some (7, false) }) (v := ?v53x10) rfl (by kernel_rfl) (by kernel_rfl) (by kernel_rfl) (fun _ _ _ h => h) (Or.inl ⟨by rfl, ?y53x10⟩) hn ?r53x10
          case y53x10 => (intro wS hS; (try go_simp); (try with_reducible rfl))
          try simp only [Act.put, List.setIfInBounds_toArray, List.set_cons_zero, List.set_cons_succ]
          refine wpAnyH_take (i := 11) (oi := { dst := some 21, op := Op.move (Operand.tmp 0), type := 42, pos := "ref.go:39", after := #[{ on := 10, ground := Ground.guard }], guard := some (10, true) }) (v := undef) rfl (by kernel_rfl) (by kernel_rfl) (by kernel_rfl) (fun _ _ _ h => h) (Or.inr ⟨by rfl, rfl⟩) hn ?_
          try simp only [Act.put, List.setIfInBounds_toArray, List.set_cons_zero, List.set_cons_succ]
          refine wpAnyH_take (i := 12) (oi := { dst := some 22, op := Op.move (Operand.tmp 3), type := 3, pos := "ref.go:39", after := #[{ on := 10, ground := Ground.guard }], guard := some (10, true) }) (v := undef) rfl (by kernel_rfl) (by kernel_rfl) (by kernel_rfl) (fun _ _ _ h => h) (Or.inr ⟨by rfl, rfl⟩) hn ?_
          try simp only [Act.put, List.setIfInBounds_toArray, List.set_cons_zero, List.set_cons_succ]
          refine wpAnyH_take (i := 13) (oi := { dst := some 23, op := Op.indexAddr 42 (Operand.tmp 21) (Operand.tmp 22), type := 0, pos := "ref.go:39", after := #[{ on := 11, ground := Ground.data }, { on := 12, ground := Ground.data }, { on := 10, ground := Ground.guard }], guard := some (10, true) }) (v := undef) rfl (by kernel_rfl) (by kernel_rfl) (by kernel_rfl) (fun _ _ _ h => h) (Or.inr ⟨by rfl, rfl⟩) hn ?_
          try simp only [Act.put, List.setIfInBounds_toArray, List.set_cons_zero, List.set_cons_succ]
          refine wpAnyH_take (i := 14) (oi := { dst := some 24, op := Op.fieldAddr 86 (Operand.tmp 23) 0, type := 0, pos := "ref.go:39", after := #[{ on := 13, ground := Ground.data }, { on := 10, ground := Ground.guard }], guard := some (10, true) }) (v := undef) rfl (by kernel_rfl) (by kernel_rfl) (by kernel_rfl) (fun _ _ _ h => h) (Or.inr ⟨by rfl, rfl⟩) hn ?_
          try simp only [Act.put, List.setIfInBounds_toArray, List.set_cons_zero, List.set_cons_succ]
          refine wpAnyH_take (i := 15) (oi := { dst := some 25, op := Op.load 22 (Operand.tmp 24), type := 22, pos := "ref.go:39", after := #[{ on := 14, ground := Ground.data }, { on := 10, ground := Ground.guard }], guard := some (10, true) }) (v := undef) rfl (by kernel_rfl) (by kernel_rfl) (by kernel_rfl) (fun _ _ _ h => h) (Or.inr ⟨by rfl, rfl⟩) hn ?_
          try simp only [Act.put, List.setIfInBounds_toArray, List.set_cons_zero, List.set_cons_succ]
          refine wpAnyH_take (i := 16) (oi := { dst := some 26, op := Op.move (Operand.tmp 0), type := 42, pos := "ref.go:39", after := #[{ on := 10, ground := Ground.guard }], guard := some (10, true) }) (v := undef) rfl (by kernel_rfl) (by kernel_rfl) (by kernel_rfl) (fun _ _ _ h => h) (Or.inr ⟨by rfl, rfl⟩) hn ?_
          try simp only [Act.put, List.setIfInBounds_toArray, List.set_cons_zero, List.set_cons_succ]
          refine wpAnyH_take (i := 17) (oi := { dst := some 27, op := Op.move (Operand.tmp 3), type := 3, pos := "ref.go:39", after := #[{ on := 10, ground := Ground.guard }], guard := some (10, true) }) (v := undef) rfl (by kernel_rfl) (by kernel_rfl) (by kernel_rfl) (fun _ _ _ h => h) (Or.inr ⟨by rfl, rfl⟩) hn ?_
          try simp only [Act.put, List.setIfInBounds_toArray, List.set_cons_zero, List.set_cons_succ]
          refine wpAnyH_take (i := 18) (oi := { dst := some 28, op := Op.binOp BinOp.sub 3 (Operand.tmp 27) (Operand.const (Value.int IntKind.i64 1)) 3, type := 3, pos := "ref.go:39", after := #[{ on := 17, ground := Ground.data }, { on := 10, ground := Ground.guard }], guard := some (10, true) }) (v := undef) rfl (by kernel_rfl) (by kernel_rfl) (by kernel_rfl) (fun _ _ _ h => h) (Or.inr ⟨by rfl, rfl⟩) hn ?_
          try simp only [Act.put, List.setIfInBounds_toArray, List.set_cons_zero, List.set_cons_succ]
          refine wpAnyH_take (i := 19) (oi := { dst := some 29, op := Op.indexAddr 42 (Operand.tmp 26) (Operand.tmp 28), type := 0, pos := "ref.go:39", after := #[{ on := 16, ground := Ground.data }, { on := 18, ground := Ground.data }, { on := 10, ground := Ground.guard }], guard := some (10, true) }) (v := undef) rfl (by kernel_rfl) (by kernel_rfl) (by kernel_rfl) (fun _ _ _ h => h) (Or.inr ⟨by rfl, rfl⟩) hn ?_
          try simp only [Act.put, List.setIfInBounds_toArray, List.set_cons_zero, List.set_cons_succ]
          refine wpAnyH_take (i := 20) (oi := { dst := some 30, op := Op.fieldAddr 86 (Operand.tmp 29) 0, type := 0, pos := "ref.go:39", after := #[{ on := 19, ground := Ground.data }, { on := 10, ground := Ground.guard }], guard := some (10, true) }) (v := undef) rfl (by kernel_rfl) (by kernel_rfl) (by kernel_rfl) (fun _ _ _ h => h) (Or.inr ⟨by rfl, rfl⟩) hn ?_
          try simp only [Act.put, List.setIfInBounds_toArray, List.set_cons_zero, List.set_cons_succ]
          refine wpAnyH_take (i := 21) (oi := { dst := some 31, op := Op.load 22 (Operand.tmp 30), type := 22, pos := "ref.go:39", after := #[{ on := 20, ground := Ground.data }, { on := 10, ground := Ground.guard }], guard := some (10, true) }) (v := undef) rfl (by kernel_rfl) (by kernel_rfl) (by kernel_rfl) (fun _ _ _ h => h) (Or.inr ⟨by rfl, rfl⟩) hn ?_
          try simp only [Act.put, List.setIfInBounds_toArray, List.set_cons_zero, List.set_cons_succ]
          refine wpAnyH_take (i := 22) (oi := { dst := some 32, op := Op.binOp BinOp.leq 22 (Operand.tmp 25) (Operand.tmp 31) 22, type := 4, pos := "ref.go:39", after := #[{ on := 15, ground := Ground.data }, { on := 21, ground := Ground.data }, { on := 10, ground := Ground.guard }], guard := some (10, true) }) (v := undef) rfl (by kernel_rfl) (by kernel_rfl) (by kernel_rfl) (fun _ _ _ h => h) (Or.inr ⟨by rfl, rfl⟩) hn ?_
          try simp only [Act.put, List.setIfInBounds_toArray, List.set_cons_zero, List.set_cons_succ]
          refine wpAnyH_take (i := 23) (oi := { dst := some 33, op := Op.pick (Operand.tmp 20) (Operand.tmp 32) (Operand.const (Value.bool false)), type := 4, pos := "ref.go:39", after := #[{ on := 10, ground := Ground.data }, { on := 22, ground := Ground.data }, { on := 7, ground := Ground.guard }], guard := some (7, false) }) (v := ?v53x23) rfl (by kernel_rfl) (by kernel_rfl) (by kernel_rfl) (fun _ _ _ h => h) (Or.inl ⟨by rfl, ?y53x23⟩) hn ?r53x23
          case y53x23 => (intro wS hS; (try go_simp); (try with_reducible rfl))
          try simp only [Act.put, List.setIfInBounds_toArray, List.set_cons_zero, List.set_cons_succ]
          refine wpAnyH_take (i := 24) (oi := { dst := some 34, op := Op.pick (Operand.tmp 17) (Operand.const (Value.bool true)) (Operand.tmp 33), type := 4, pos := "ref.go:39", after := #[{ on := 7, ground := Ground.data }, { on := 23, ground := Ground.data }], guard := none }) (v := ?v53x24) rfl (by kernel_rfl) (by kernel_rfl) (by kernel_rfl) (fun _ _ _ h => h) (Or.inl ⟨by rfl, ?y53x24⟩) hn ?r53x24
          case y53x24 => (intro wS hS; (try go_simp); (try with_reducible rfl))
          try simp only [Act.put, List.setIfInBounds_toArray, List.set_cons_zero, List.set_cons_succ]
          refine wpAnyH_done (by kernel_rfl) ?_ _
          refine NoPanic.normal ?_
          have HH := hid hn
          clear hn
          go_wp2_with fail
          go_roundw
          case rel => exact ⟨1, rfl, by omega, HTX.out (by first | rfl | trivial), HNE.out, HH.out⟩
          case measure => (simp [intOf]; omega)
        · obtain ⟨p, hp⟩ : ∃ p, p + 1 = i := ⟨i - 1, by omega⟩
          have hpl : p < xs.length := by omega
          obtain ⟨b', o', e, hd0, _⟩ := HAT.out p hpl
          cases e
          have HS : Hid ((xs[p]).1 < (xs[i]).1 → ∀ k (h : k + 1 < xs.length), k + 1 < i + 1 → (xs[k]).1 < (xs[k + 1]).1) := by
            show (xs[p]).1 < (xs[i]).1 → ∀ k (h : k + 1 < xs.length), k + 1 < i + 1 → (xs[k]).1 < (xs[k + 1]).1
            subst hp
            intro h0 k h h1
            rcases Nat.lt_or_ge k p with h3 | h3
            · exact HNO.out k h (by omega)
            · obtain rfl : k = p := by omega
              exact h0
          have HR : Hid (NRight xs → (xs[p]).1 < (xs[i]).1) := by
            show NRight xs → (xs[p]).1 < (xs[i]).1
            subst hp
            intro h
            have := h.1 p (by simpa using hi)
            simpa using this
          have r0 := hid hd0
          have e1 : IntKind.i64.wrap ((i : Int) - 1) = (p : Int) := by rw [IntWalk.i64_in _ (by omega)]; omega
          have e2 : decide ((0 : Int) < (i : Int)) = true := by simpa using h0
          have e3 : decide (0 < i) = true := by simpa using h0
          clear hd0 hp
          generalize (xs[p]).1 = n at *
          generalize xs[i] = x at *
          obtain ⟨m, y⟩ := x
          simp only at q0 q1 HT HS HR
          by_cases hlt : n < m
          · have hle : decide ((m : Int) ≤ (n : Int)) = false := by simpa using hlt
            have hle2 : decide (m ≤ n) = false := by simpa using hlt
            have hle3 : (m ≤ n) = False := by simpa using hlt
            have HLT := hid hlt
            clear hlt
            go_wp2_with fail
            refine wp_region_noPanic ?_
            refine wp_region_held_drew (S := (New w)) (by kernel_rfl) (by first | exact hn | exact (Upd.refl _ _).drew | exact Upd.drew (by assumption)) (fun hn => ?_)
            generalize wr.drew = wd at *
            refine wpAnyH_take (i := 0) (oi := { dst := some 10, op := Op.move (Operand.tmp 0), type := 42, pos := "ref.go:39", after := #[], guard := none }) (v := ?v54x1) rfl (by kernel_rfl) (by kernel_rfl) (by kernel_rfl) (fun _ _ _ h => h) (Or.inl ⟨by rfl, ?y54x1⟩) hn ?r54x1
            case y54x1 => (intro wS hS; (try go_simp); (try with_reducible rfl))
            try simp only [Act.put, List.setIfInBounds_toArray, List.set_cons_zero, List.set_cons_succ]
            refine wpAnyH_take (i := 1) (oi := { dst := some 11, op := Op.move (Operand.tmp 3), type := 3, pos := "ref.go:39", after := #[], guard := none }) (v := ?v54x2) rfl (by kernel_rfl) (by kernel_rfl) (by kernel_rfl) (fun _ _ _ h => h) (Or.inl ⟨by rfl, ?y54x2⟩) hn ?r54x2
            case y54x2 => (intro wS hS; (try go_simp); (try with_reducible rfl))
            try simp only [Act.put, List.setIfInBounds_toArray, List.set_cons_zero, List.set_cons_succ]
            refine wpAnyH_take (i := 2) (oi := { dst := some 12, op := Op.indexAddr 42 (Operand.tmp 10) (Operand.tmp 11), type := 0, pos := "ref.go:39", after := #[{ on := 0, ground := Ground.data }, { on := 1, ground := Ground.data }], guard := none }) (v := ?v54x3) rfl (by kernel_rfl) (by kernel_rfl) (by kernel_rfl) (fun _ _ _ h => h) (Or.inl ⟨by rfl, ?y54x3⟩) hn ?r54x3
            case y54x3 => (intro wS hS; (try go_simp); (try with_reducible rfl))
            try simp only [Act.put, List.setIfInBounds_toArray, List.set_cons_zero, List.set_cons_succ]
            refine wpAnyH_take (i := 3) (oi := { dst := some 13, op := Op.fieldAddr 86 (Operand.tmp 12) 1, type := 0, pos := "ref.go:39", after := #[{ on := 2, ground := Ground.data }], guard := none }) (v := ?v54x4) rfl (by kernel_rfl) (by kernel_rfl) (by kernel_rfl) (fun _ _ _ h => h) (Or.inl ⟨by rfl, ?y54x4⟩) hn ?r54x4
            case y54x4 => (intro wS hS; (try go_simp); (try with_reducible rfl))
            try simp only [Act.put, List.setIfInBounds_toArray, List.set_cons_zero, List.set_cons_succ]
            refine wpAnyH_take (i := 4) (oi := { dst := some 14, op := Op.load 9 (Operand.tmp 13), type := 9, pos := "ref.go:39", after := #[{ on := 3, ground := Ground.data }], guard := none }) (v := ?v54x5) rfl (by kernel_rfl) (by kernel_rfl) (by kernel_rfl) (fun _ _ _ h => h) (Or.inl ⟨by rfl, ?y54x5⟩) hn ?r54x5
            case y54x5 => (intro wS hS; have c1 := hS.cell q1.out (fun h => h); (try go_simp); (try with_reducible rfl))
            try simp only [Act.put, List.setIfInBounds_toArray, List.set_cons_zero, List.set_cons_succ]
            refine wpAnyH_ready (rs := [5]) (by kernel_rfl) (by simp) ?_
            refine AllReadyH.cons (o := { dst := some 15, op := Op.call { callee := Callee.value (Operand.func 48), args := #[Operand.tmp 14], argTypes := #[9] }, type := 4, pos := "ref.go:39", after := #[{ on := 4, ground := Ground.data }], guard := none }) rfl (fun K hK => ?_) AllReadyH.nil
            go_simp
            refine (HT.out _).mono ?_
            rintro e wq ⟨rfl, hnq⟩
            go_wp2_with fail
            have hn := New.trans hn hnq
            refine hK.out _ _ (by first | exact hn | exact Upd.alloc hn _) (fun hn => ?_)
            clear hK K
            try simp only [Act.put, List.setIfInBounds_toArray, List.set_cons_zero, List.set_cons_succ]
            refine wpAnyH_take (i := 6) (oi := { dst := some 16, op := Op.unOp UnOp.not 4 (Operand.tmp 15), type := 4, pos := "ref.go:39", after := #[{ on := 5, ground := Ground.data }], guard := none }) (v := ?v54x6) rfl (by kernel_rfl) (by kernel_rfl) (by kernel_rfl) (fun _ _ _ h => h) (Or.inl ⟨by rfl, ?y54x6⟩) hn ?r54x6
            case y54x6 => (intro wS hS; (try go_simp); (try with_reducible rfl))
            try simp only [Act.put, List.setIfInBounds_toArray, List.set_cons_zero, List.set_cons_succ]
            refine wpAnyH_take (i := 7) (oi := { dst := some 17, op := Op.move (Operand.tmp 16), type := 4, pos := "ref.go:39", after := #[{ on := 6, ground := Ground.data }, { on := 5, ground := Ground.chain }], guard := none }) (v := ?v54x7) rfl (by kernel_rfl) (by kernel_rfl) (by kernel_rfl) (fun _ _ _ h => h) (Or.inl ⟨by rfl, ?y54x7⟩) hn ?r54x7
            case y54x7 => (intro wS hS; (try go_simp); (try with_reducible rfl))
            try simp only [Act.put, List.setIfInBounds_toArray, List.set_cons_zero, List.set_cons_succ]
            refine wpAnyH_take (i := 8) (oi := { dst := some 18, op := Op.move (Operand.tmp 3), type := 3, pos := "ref.go:39", after := #[{ on := 7, ground := Ground.guard }], guard := some (7, false) }) (v := ?v54x8) rfl (by kernel_rfl) (by kernel_rfl) (by kernel_rfl) (fun _ _ _ h => h) (Or.inl ⟨by rfl, ?y54x8⟩) hn ?r54x8
            case y54x8 => (intro wS hS; (try go_simp); (try with_reducible rfl))
            try simp only [Act.put, List.setIfInBounds_toArray, List.set_cons_zero, List.set_cons_succ]
            refine wpAnyH_take (i := 9) (oi := { dst := some 19, op := Op.binOp BinOp.gtr 3 (Operand.tmp 18) (Operand.const (Value.int IntKind.i64 0)) 3, type := 4, pos := "ref.go:39", after := #[{ on := 8, ground := Ground.data }, { on := 7, ground := Ground.guard }], guard := some (7, false) }) (v := ?v54x9) rfl (by kernel_rfl) (by kernel_rfl) (by kernel_rfl) (fun _ _ _ h => h) (Or.inl ⟨by rfl, ?y54x9⟩) hn ?r54x9
            case y54x9 => (intro wS hS; (try go_simp); (try with_reducible rfl))
            try simp only [Act.put, List.setIfInBounds_toArray, List.set_cons_zero, List.set_cons_succ]
            refine wpAnyH_take (i := 10) (oi := { dst := some 20, op := Op.move (Operand.tmp 19), type := 4, pos := "ref.go:39", after := #[{ on := 9, ground := Ground.data }, { on := 7, ground := Ground.chain }, { on := 7, ground := Ground.guard }], guard := some (7, false) }) (v := ?v54x10) rfl (by kernel_rfl) (by kernel_rfl) (by kernel_rfl) (fun _ _ _ h => h) (Or.inl ⟨by rfl, ?y54x10⟩) hn ?r54x10
            case y54x10 => (intro wS hS; (try go_simp); (try with_reducible rfl))
            try simp only [Act.put, List.setIfInBounds_toArray, List.set_cons_zero, List.set_cons_succ]
            refine wpAnyH_take (i := 11) (oi := { dst := some 21, op := Op.move (Operand.tmp 0), type := 42, pos := "ref.go:39", after := #[{ on := 10, ground := Ground.guard }], guard := some (10, true) }) (v := ?v54x11) rfl (by kernel_rfl) (by kernel_rfl) (by kernel_rfl) (fun _ _ _ h => h) (Or.inl ⟨by rfl, ?y54x11⟩) hn ?r54x11
            case y54x11 => (intro wS hS; (try go_simp); (try with_reducible rfl))
            try simp only [Act.put, List.setIfInBounds_toArray, List.set_cons_zero, List.set_cons_succ]
            refine wpAnyH_take (i := 12) (oi := { dst := some 22, op := Op.move (Operand.tmp 3), type := 3, pos := "ref.go:39", after := #[{ on := 10, ground := Ground.guard }], guard := some (10, true) }) (v := ?v54x12) rfl (by kernel_rfl) (by kernel_rfl) (by kernel_rfl) (fun _ _ _ h => h) (Or.inl ⟨by rfl, ?y54x12⟩) hn ?r54x12
            case y54x12 => (intro wS hS; (try go_simp); (try with_reducible rfl))
            try simp only [Act.put, List.setIfInBounds_toArray, List.set_cons_zero, List.set_cons_succ]
            refine wpAnyH_take (i := 13) (oi := { dst := some 23, op := Op.indexAddr 42 (Operand.tmp 21) (Operand.tmp 22), type := 0, pos := "ref.go:39", after := #[{ on := 11, ground := Ground.data }, { on := 12, ground := Ground.data }, { on := 10, ground := Ground.guard }], guard := some (10, true) }) (v := ?v54x13) rfl (by kernel_rfl) (by kernel_rfl) (by kernel_rfl) (fun _ _ _ h => h) (Or.inl ⟨by rfl, ?y54x13⟩) hn ?r54x13
            case y54x13 => (intro wS hS; (try go_simp); (try with_reducible rfl))
            try simp only [Act.put, List.setIfInBounds_toArray, List.set_cons_zero, List.set_cons_succ]
            refine wpAnyH_take (i := 14) (oi := { dst := some 24, op := Op.fieldAddr 86 (Operand.tmp 23) 0, type := 0, pos := "ref.go:39", after := #[{ on := 13, ground := Ground.data }, { on := 10, ground := Ground.guard }], guard := some (10, true) }) (v := ?v54x14) rfl (by kernel_rfl) (by kernel_rfl) (by kernel_rfl) (fun _ _ _ h => h) (Or.inl ⟨by rfl, ?y54x14⟩) hn ?r54x14
            case y54x14 => (intro wS hS; (try go_simp); (try with_reducible rfl))
            try simp only [Act.put, List.setIfInBounds_toArray, List.set_cons_zero, List.set_cons_succ]
            refine wpAnyH_take (i := 15) (oi := { dst := some 25, op := Op.load 22 (Operand.tmp 24), type := 22, pos := "ref.go:39", after := #[{ on := 14, ground := Ground.data }, { on := 10, ground := Ground.guard }], guard := some (10, true) }) (v := ?v54x15) rfl (by kernel_rfl) (by kernel_rfl) (by kernel_rfl) (fun _ _ _ h => h) (Or.inl ⟨by rfl, ?y54x15⟩) hn ?r54x15
            case y54x15 => (intro wS hS; have c0 := hS.cell q0.out (fun h => h); (try go_simp); (try with_reducible rfl))
            try simp only [Act.put, List.setIfInBounds_toArray, List.set_cons_zero, List.set_cons_succ]
            refine wpAnyH_take (i := 16) (oi := { dst := some 26, op := Op.move (Operand.tmp 0), type := 42, pos := "ref.go:39", after := #[{ on := 10, ground := Ground.guard }], guard := some (10, true) }) (v := ?v54x16) rfl (by kernel_rfl) (by kernel_rfl) (by kernel_rfl) (fun _ _ _ h => h) (Or.inl ⟨by rfl, ?y54x16⟩) hn ?r54x16
            case y54x16 => (intro wS hS; (try go_simp); (try with_reducible rfl))
            try simp only [Act.put, List.setIfInBounds_toArray, List.set_cons_zero, List.set_cons_succ]
            refine wpAnyH_take (i := 17) (oi := { dst := some 27, op := Op.move (Operand.tmp 3), type := 3, pos := "ref.go:39", after := #[{ on := 10, ground := Ground.guard }], guard := some (10, true) }) (v := ?v54x17) rfl (by kernel_rfl) (by kernel_rfl) (by kernel_rfl) (fun _ _ _ h => h) (Or.inl ⟨by rfl, ?y54x17⟩) hn ?r54x17
            case y54x17 => (intro wS hS; (try go_simp); (try with_reducible rfl))
            try simp only [Act.put, List.setIfInBounds_toArray, List.set_cons_zero, List.set_cons_succ]
            refine wpAnyH_take (i := 18) (oi := { dst := some 28, op := Op.binOp BinOp.sub 3 (Operand.tmp 27) (Operand.const (Value.int IntKind.i64 1)) 3, type := 3, pos := "ref.go:39", after := #[{ on := 17, ground := Ground.data }, { on := 10, ground := Ground.guard }], guard := some (10, true) }) (v := ?v54x18) rfl (by kernel_rfl) (by kernel_rfl) (by kernel_rfl) (fun _ _ _ h => h) (Or.inl ⟨by rfl, ?y54x18⟩) hn ?r54x18
            case y54x18 => (intro wS hS; (try go_simp); (try with_reducible rfl))
            try simp only [Act.put, List.setIfInBounds_toArray, List.set_cons_zero, List.set_cons_succ]
            refine wpAnyH_take (i := 19) (oi := { dst := some 29, op := Op.indexAddr 42 (Operand.tmp 26) (Operand.tmp 28), type := 0, pos := "ref.go:39", after := #[{ on := 16, ground := Ground.data }, { on := 18, ground := Ground.data }, { on := 10, ground := Ground.guard }], guard := some (10, true) }) (v := ?v54x19) rfl (by kernel_rfl) (by kernel_rfl) (by kernel_rfl) (fun _ _ _ h => h) (Or.inl ⟨by rfl, ?y54x19⟩) hn ?r54x19
            case y54x19 => (intro wS hS; (try go_simp); (try with_reducible rfl))
            try simp only [Act.put, List.setIfInBounds_toArray, List.set_cons_zero, List.set_cons_succ]
            refine wpAnyH_take (i := 20) (oi := { dst := some 30, op := Op.fieldAddr 86 (Operand.tmp 29) 0, type := 0, pos := "ref.go:39", after := #[{ on := 19, ground := Ground.data }, { on := 10, ground := Ground.guard }], guard := some (10, true) }) (v := ?v54x20) rfl (by kernel_rfl) (by kernel_rfl) (by kernel_rfl) (fun _ _ _ h => h) (Or.inl ⟨by rfl, ?y54x20⟩) hn ?r54x20
            case y54x20 => (intro wS hS; (try go_simp); (try with_reducible rfl))
            try simp only [Act.put, List.setIfInBounds_toArray, List.set_cons_zero, List.set_cons_succ]
            refine wpAnyH_take (i := 21) (oi := { dst := some 31, op := Op.load 22 (Operand.tmp 30), type := 22, pos := "ref.go:39", after := #[{ on := 20, ground := Ground.data }, { on := 10, ground := Ground.guard }], guard := some (10, true) }) (v := ?v54x21) rfl (by kernel_rfl) (by kernel_rfl) (by kernel_rfl) (fun _ _ _ h => h) (Or.inl ⟨by rfl, ?y54x21⟩) hn ?r54x21
            case y54x21 => (intro wS hS; have c0 := hS.cell r0.out (fun h => h); (try go_simp); (try with_reducible rfl))
            try simp only [Act.put, List.setIfInBounds_toArray, List.set_cons_zero, List.set_cons_succ]
            refine wpAnyH_take (i := 22) (oi := { dst := some 32, op := Op.binOp BinOp.leq 22 (Operand.tmp 25) (Operand.tmp 31) 22, type := 4, pos := "ref.go:39", after := #[{ on := 15, ground := Ground.data }, { on := 21, ground := Ground.data }, { on := 10, ground := Ground.guard }], guard := some (10, true) }) (v := ?v54x22) rfl (by kernel_rfl) (by kernel_rfl) (by kernel_rfl) (fun _ _ _ h => h) (Or.inl ⟨by rfl, ?y54x22⟩) hn ?r54x22
            case y54x22 => (intro wS hS; (try go_simp); (try with_reducible rfl))
            try simp only [Act.put, List.setIfInBounds_toArray, List.set_cons_zero, List.set_cons_succ]
            refine wpAnyH_take (i := 23) (oi := { dst := some 33, op := Op.pick (Operand.tmp 20) (Operand.tmp 32) (Operand.const (Value.bool false)), type := 4, pos := "ref.go:39", after := #[{ on := 10, ground := Ground.data }, { on := 22, ground := Ground.data }, { on := 7, ground := Ground.guard }], guard := some (7, false) }) (v := ?v54x23) rfl (by kernel_rfl) (by kernel_rfl) (by kernel_rfl) (fun _ _ _ h => h) (Or.inl ⟨by rfl, ?y54x23⟩) hn ?r54x23
            case y54x23 => (intro wS hS; (try go_simp); (try with_reducible rfl))
            try simp only [Act.put, List.setIfInBounds_toArray, List.set_cons_zero, List.set_cons_succ]
            refine wpAnyH_take (i := 24) (oi := { dst := some 34, op := Op.pick (Operand.tmp 17) (Operand.const (Value.bool true)) (Operand.tmp 33), type := 4, pos := "ref.go:39", after := #[{ on := 7, ground := Ground.data }, { on := 23, ground := Ground.data }], guard := none }) (v := ?v54x24) rfl (by kernel_rfl) (by kernel_rfl) (by kernel_rfl) (fun _ _ _ h => h) (Or.inl ⟨by rfl, ?y54x24⟩) hn ?r54x24
            case y54x24 => (intro wS hS; (try go_simp); (try with_reducible rfl))
            try simp only [Act.put, List.setIfInBounds_toArray, List.set_cons_zero, List.set_cons_succ]
            refine wpAnyH_done (by kernel_rfl) ?_ _
            refine NoPanic.normal ?_
            clear e1 e2 e3
            have HH := hid hn
            clear hn
            go_wp2_with fail
            go_roundw
            case rel => exact ⟨i + 1, by go_num, by omega, HTX.out (by first | rfl | trivial), HS.out HLT.out, HH.out⟩
            case measure => (simp [intOf]; omega)
          · have hle : decide ((m : Int) ≤ (n : Int)) = true := by simpa using hlt
            have hle2 : decide (m ≤ n) = true := by simpa using hlt
            have hle3 : (m ≤ n) = True := by simpa using hlt
            have HLT := hid hlt
            clear hlt
            go_wp2_with fail
            refine wp_region_noPanic ?_
            refine wp_region_held_drew (S := (New w)) (by kernel_rfl) (by first | exact hn | exact (Upd.refl _ _).drew | exact Upd.drew (by assumption)) (fun hn => ?_)
            generalize wr.drew = wd at *
            refine wpAnyH_take (i := 0) (oi := { dst := some 10, op := Op.move (Operand.tmp 0), type := 42, pos := "ref.go:39", after := #[], guard := none }) (v := ?v55x1) rfl (by kernel_rfl) (by kernel_rfl) (by kernel_rfl) (fun _ _ _ h => h) (Or.inl ⟨by rfl, ?y55x1⟩) hn ?r55x1
            case y55x1 => (intro wS hS; (try go_simp); (try with_reducible rfl))
            try simp only [Act.put, List.setIfInBounds_toArray, List.set_cons_zero, List.set_cons_succ]
            refine wpAnyH_take (i := 1) (oi := { dst := some 11, op := Op.move (Operand.tmp 3), type := 3, pos := "ref.go:39", after := #[], guard := none }) (v := ?v55x2) rfl (by kernel_rfl) (by kernel_rfl) (by kernel_rfl) (fun _ _ _ h => h) (Or.inl ⟨by rfl, ?y55x2⟩) hn ?r55x2
            case y55x2 => (intro wS hS; (try go_simp); (try with_reducible rfl))
            try simp only [Act.put, List.setIfInBounds_toArray, List.set_cons_zero, List.set_cons_succ]
            refine wpAnyH_take (i := 2) (oi := { dst := some 12, op := Op.indexAddr 42 (Operand.tmp 10) (Operand.tmp 11), type := 0, pos := "ref.go:39", after := #[{ on := 0, ground := Ground.data }, { on := 1, ground := Ground.data }], guard := none }) (v := ?v55x3) rfl (by kernel_rfl) (by kernel_rfl) (by kernel_rfl) (fun _ _ _ h => h) (Or.inl ⟨by rfl, ?y55x3⟩) hn ?r55x3
            case y55x3 => (intro wS hS; (try go_simp); (try with_reducible rfl))
            try simp only [Act.put, List.setIfInBounds_toArray, List.set_cons_zero, List.set_cons_succ]
            refine wpAnyH_take (i := 3) (oi := { dst := some 13, op := Op.fieldAddr 86 (Operand.tmp 12) 1, type := 0, pos := "ref.go:39", after := #[{ on := 2, ground := Ground.data }], guard := none }) (v := ?v55x4) rfl (by kernel_rfl) (by kernel_rfl) (by kernel_rfl) (fun _ _ _ h => h) (Or.inl ⟨by rfl, ?y55x4⟩) hn ?r55x4
            case y55x4 => (intro wS hS; (try go_simp); (try with_reducible rfl))
            try simp only [Act.put, List.setIfInBounds_toArray, List.set_cons_zero, List.set_cons_succ]
            refine wpAnyH_take (i := 4) (oi := { dst := some 14, op := Op.load 9 (Operand.tmp 13), type := 9, pos := "ref.go:39", after := #[{ on := 3, ground := Ground.data }], guard := none }) (v := ?v55x5) rfl (by kernel_rfl) (by kernel_rfl) (by kernel_rfl) (fun _ _ _ h => h) (Or.inl ⟨by rfl, ?y55x5⟩) hn ?r55x5
            case y55x5 => (intro wS hS; have c1 := hS.cell q1.out (fun h => h); (try go_simp); (try with_reducible rfl))
            try simp only [Act.put, List.setIfInBounds_toArray, List.set_cons_zero, List.set_cons_succ]
            refine wpAnyH_ready (rs := [5]) (by kernel_rfl) (by simp) ?_
            refine AllReadyH.cons (o := { dst := some 15, op := Op.call { callee := Callee.value (Operand.func 48), args := #[Operand.tmp 14], argTypes := #[9] }, type := 4, pos := "ref.go:39", after := #[{ on := 4, ground := Ground.data }], guard := none }) rfl (fun K hK => ?_) AllReadyH.nil
            go_simp
            refine (HT.out _).mono ?_
            rintro e wq ⟨rfl, hnq⟩
            go_wp2_with fail
            have hn := New.trans hn hnq
            refine hK.out _ _ (by first | exact hn | exact Upd.alloc hn _) (fun hn => ?_)
            clear hK K
            try simp only [Act.put, List.setIfInBounds_toArray, List.set_cons_zero, List.set_cons_succ]
            refine wpAnyH_take (i := 6) (oi := { dst := some 16, op := Op.unOp UnOp.not 4 (Operand.tmp 15), type := 4, pos := "ref.go:39", after := #[{ on := 5, ground := Ground.data }], guard := none }) (v := ?v55x6) rfl (by kernel_rfl) (by kernel_rfl) (by kernel_rfl) (fun _ _ _ h => h) (Or.inl ⟨by rfl, ?y55x6⟩) hn ?r55x6
            case y55x6 => (intro wS hS; (try go_simp); (try with_reducible rfl))
            try simp only [Act.put, List.setIfInBounds_toArray, List.set_cons_zero, List.set_cons_succ]
            refine wpAnyH_take (i := 7) (oi := { dst := some 17, op := Op.move (Operand.tmp 16), type := 4, pos := "ref.go:39", after := #[{ on := 6, ground := Ground.data }, { on := 5, ground := Ground.chain }], guard := none }) (v := ?v55x7) rfl (by kernel_rfl) (by kernel_rfl) (by kernel_rfl) (fun _ _ _ h => h) (Or.inl ⟨by rfl, ?y55x7⟩) hn ?r55x7
            case y55x7 => (intro wS hS; (try go_simp); (try with_reducible rfl))
            try simp only [Act.put, List.setIfInBounds_toArray, List.set_cons_zero, List.set_cons_succ]
            refine wpAnyH_take (i := 8) (oi := { dst := some 18, op := Op.move (Operand.tmp 3), type := 3, pos := "ref.go:39", after := #[{ on := 7, ground := Ground.guard }], guard := some (7, false) }) (v := ?v55x8) rfl (by kernel_rfl) (by kernel_rfl) (by kernel_rfl) (fun _ _ _ h => h) (Or.inl ⟨by rfl, ?y55x8⟩) hn ?r55x8
            case y55x8 => (intro wS hS; (try go_simp); (try with_reducible rfl))
            try simp only [Act.put, List.setIfInBounds_toArray, List.set_cons_zero, List.set_cons_succ]
            refine wpAnyH_take (i := 9) (oi := { dst := some 19, op := Op.binOp BinOp.gtr 3 (Operand.tmp 18) (Operand.const (Value.int IntKind.i64 0)) 3, type := 4, pos := "ref.go:39", after := #[{ on := 8, ground := Ground.data }, { on := 7, ground := Ground.guard }], guard := some (7, false) }) (v := ?v55x9) rfl (by kernel_rfl) (by kernel_rfl) (by kernel_rfl) (fun _ _ _ h => h) (Or.inl ⟨by rfl, ?y55x9⟩) hn ?r55x9
            case y55x9 => (intro wS hS; (try go_simp); (try with_reducible rfl))
            try simp only [Act.put, List.setIfInBounds_toArray, List.set_cons_zero, List.set_cons_succ]
            refine wpAnyH_take (i := 10) (oi := { dst := some 20, op := Op.move (Operand.tmp 19), type := 4, pos := "ref.go:39", after := #[{ on := 9, ground := Ground.data }, { on := 7, ground := Ground.chain }, { on := 7, ground := Ground.guard }], guard := some (7, false) }) (v := ?v55x10) rfl (by kernel_rfl) (by kernel_rfl) (by kernel_rfl) (fun _ _ _ h => h) (Or.inl ⟨by rfl, ?y55x10⟩) hn ?r55x10
            case y55x10 => (intro wS hS; (try go_simp); (try with_reducible rfl))
            try simp only [Act.put, List.setIfInBounds_toArray, List.set_cons_zero, List.set_cons_succ]
            refine wpAnyH_take (i := 11) (oi := { dst := some 21, op := Op.move (Operand.tmp 0), type := 42, pos := "ref.go:39", after := #[{ on := 10, ground := Ground.guard }], guard := some (10, true) }) (v := ?v55x11) rfl (by kernel_rfl) (by kernel_rfl) (by kernel_rfl) (fun _ _ _ h => h) (Or.inl ⟨by rfl, ?y55x11⟩) hn ?r55x11
            case y55x11 => (intro wS hS; (try go_simp); (try with_reducible rfl))
            try simp only [Act.put, List.setIfInBounds_toArray, List.set_cons_zero, List.set_cons_succ]
            refine wpAnyH_take (i := 12) (oi := { dst := some 22, op := Op.move (Operand.tmp 3), type := 3, pos := "ref.go:39", after := #[{ on := 10, ground := Ground.guard }], guard := some (10, true) }) (v := ?v55x12) rfl (by kernel_rfl) (by kernel_rfl) (by kernel_rfl) (fun _ _ _ h => h) (Or.inl ⟨by rfl, ?y55x12⟩) hn ?r55x12
            case y55x12 => (intro wS hS; (try go_simp); (try with_reducible rfl))
            try simp only [Act.put, List.setIfInBounds_toArray, List.set_cons_zero, List.set_cons_succ]
            refine wpAnyH_take (i := 13) (oi := { dst := some 23, op := Op.indexAddr 42 (Operand.tmp 21) (Operand.tmp 22), type := 0, pos := "ref.go:39", after := #[{ on := 11, ground := Ground.data }, { on := 12, ground := Ground.data }, { on := 10, ground := Ground.guard }], guard := some (10, true) }) (v := ?v55x13) rfl (by kernel_rfl) (by kernel_rfl) (by kernel_rfl) (fun _ _ _ h => h) (Or.inl ⟨by rfl, ?y55x13⟩) hn ?r55x13
            case y55x13 => (intro wS hS; (try go_simp); (try with_reducible rfl))
            try simp only [Act.put, List.setIfInBounds_toArray, List.set_cons_zero, List.set_cons_succ]
            refine wpAnyH_take (i := 14) (oi := { dst := some 24, op := Op.fieldAddr 86 (Operand.tmp 23) 0, type := 0, pos := "ref.go:39", after := #[{ on := 13, ground := Ground.data }, { on := 10, ground := Ground.guard }], guard := some (10, true) }) (v := ?v55x14) rfl (by kernel_rfl) (by kernel_rfl) (by kernel_rfl) (fun _ _ _ h => h) (Or.inl ⟨by rfl, ?y55x14⟩) hn ?r55x14
            case y55x14 => (intro wS hS; (try go_simp); (try with_reducible rfl))
            try simp only [Act.put, List.setIfInBounds_toArray, List.set_cons_zero, List.set_cons_succ]
            refine wpAnyH_take (i := 15) (oi := { dst := some 25, op := Op.load 22 (Operand.tmp 24), type := 22, pos := "ref.go:39", after := #[{ on := 14, ground := Ground.data }, { on := 10, ground := Ground.guard }], guard := some (10, true) }) (v := ?v55x15) rfl (by kernel_rfl) (by kernel_rfl) (by kernel_rfl) (fun _ _ _ h => h) (Or.inl ⟨by rfl, ?y55x15⟩) hn ?r55x15
            case y55x15 => (intro wS hS; have c0 := hS.cell q0.out (fun h => h); (try go_simp); (try with_reducible rfl))
            try simp only [Act.put, List.setIfInBounds_toArray, List.set_cons_zero, List.set_cons_succ]
            refine wpAnyH_take (i := 16) (oi := { dst := some 26, op := Op.move (Operand.tmp 0), type := 42, pos := "ref.go:39", after := #[{ on := 10, ground := Ground.guard }], guard := some (10, true) }) (v := ?v55x16) rfl (by kernel_rfl) (by kernel_rfl) (by kernel_rfl) (fun _ _ _ h => h) (Or.inl ⟨by rfl, ?y55x16⟩) hn ?r55x16
            case y55x16 => (intro wS hS; (try go_simp); (try with_reducible rfl))
            try simp only [Act.put, List.setIfInBounds_toArray, List.set_cons_zero, List.set_cons_succ]
            refine wpAnyH_take (i := 17) (oi := { dst := some 27, op := Op.move (Operand.tmp 3), type := 3, pos := "ref.go:39", after := #[{ on := 10, ground := Ground.guard }], guard := some (10, true) }) (v := ?v55x17) rfl (by kernel_rfl) (by kernel_rfl) (by kernel_rfl) (fun _ _ _ h => h) (Or.inl ⟨by rfl, ?y55x17⟩) hn ?r55x17
            case y55x17 => (intro wS hS; (try go_simp); (try with_reducible rfl))
            try simp only [Act.put, List.setIfInBounds_toArray, List.set_cons_zero, List.set_cons_succ]
            refine wpAnyH_take (i := 18) (oi := { dst := some 28, op := Op.binOp BinOp.sub 3 (Operand.tmp 27) (Operand.const (Value.int IntKind.i64 1)) 3, type := 3, pos := "ref.go:39", after := #[{ on := 17, ground := Ground.data }, { on := 10, ground := Ground.guard }], guard := some (10, true) }) (v := ?v55x18) rfl (by kernel_rfl) (by kernel_rfl) (by kernel_rfl) (fun _ _ _ h => h) (Or.inl ⟨by rfl, ?y55x18⟩) hn ?r55x18
            case y55x18 => (intro wS hS; (try go_simp); (try with_reducible rfl))
            try simp only [Act.put, List.setIfInBounds_toArray, List.set_cons_zero, List.set_cons_succ]
            refine wpAnyH_take (i := 19) (oi := { dst := some 29, op := Op.indexAddr 42 (Operand.tmp 26) (Operand.tmp 28), type := 0, pos := "ref.go:39", after := #[{ on := 16, ground := Ground.data }, { on := 18, ground := Ground.data }, { on := 10, ground := Ground.guard }], guard := some (10, true) }) (v := ?v55x19) rfl (by kernel_rfl) (by kernel_rfl) (by kernel_rfl) (fun _ _ _ h => h) (Or.inl ⟨by rfl, ?y55x19⟩) hn ?r55x19
            case y55x19 => (intro wS hS; (try go_simp); (try with_reducible rfl))
            try simp only [Act.put, List.setIfInBounds_toArray, List.set_cons_zero, List.set_cons_succ]
            refine wpAnyH_take (i := 20) (oi := { dst := some 30, op := Op.fieldAddr 86 (Operand.tmp 29) 0, type := 0, pos := "ref.go:39", after := #[{ on := 19, ground := Ground.data }, { on := 10, ground := Ground.guard }], guard := some (10, true) }) (v := ?v55x20) rfl (by kernel_rfl) (by kernel_rfl) (by kernel_rfl) (fun _ _ _ h => h) (Or.inl ⟨by rfl, ?y55x20⟩) hn ?r55x20
            case y55x20 => (intro wS hS; (try go_simp); (try with_reducible rfl))
            try simp only [Act.put, List.setIfInBounds_toArray, List.set_cons_zero, List.set_cons_succ]
            refine wpAnyH_take (i := 21) (oi := { dst := some 31, op := Op.load 22 (Operand.tmp 30), type := 22, pos := "ref.go:39", after := #[{ on := 20, ground := Ground.data }, { on := 10, ground := Ground.guard }], guard := some (10, true) }) (v := ?v55x21) rfl (by kernel_rfl) (by kernel_rfl) (by kernel_rfl) (fun _ _ _ h => h) (Or.inl ⟨by rfl, ?y55x21⟩) hn ?r55x21
            case y55x21 => (intro wS hS; have c0 := hS.cell r0.out (fun h => h); (try go_simp); (try with_reducible rfl))
            try simp only [Act.put, List.setIfInBounds_toArray, List.set_cons_zero, List.set_cons_succ]
            refine wpAnyH_take (i := 22) (oi := { dst := some 32, op := Op.binOp BinOp.leq 22 (Operand.tmp 25) (Operand.tmp 31) 22, type := 4, pos := "ref.go:39", after := #[{ on := 15, ground := Ground.data }, { on := 21, ground := Ground.data }, { on := 10, ground := Ground.guard }], guard := some (10, true) }) (v := ?v55x22) rfl (by kernel_rfl) (by kernel_rfl) (by kernel_rfl) (fun _ _ _ h => h) (Or.inl ⟨by rfl, ?y55x22⟩) hn ?r55x22
            case y55x22 => (intro wS hS; (try go_simp); (try with_reducible rfl))
            try simp only [Act.put, List.setIfInBounds_toArray, List.set_cons_zero, List.set_cons_succ]
            refine wpAnyH_take (i := 23) (oi := { dst := some 33, op := Op.pick (Operand.tmp 20) (Operand.tmp 32) (Operand.const (Value.bool false)), type := 4, pos := "ref.go:39", after := #[{ on := 10, ground := Ground.data }, { on := 22, ground := Ground.data }, { on := 7, ground := Ground.guard }], guard := some (7, false) }) (v := ?v55x23) rfl (by kernel_rfl) (by kernel_rfl) (by kernel_rfl) (fun _ _ _ h => h) (Or.inl ⟨by rfl, ?y55x23⟩) hn ?r55x23
            case y55x23 => (intro wS hS; (try go_simp); (try with_reducible rfl))
            try simp only [Act.put, List.setIfInBounds_toArray, List.set_cons_zero, List.set_cons_succ]
            refine wpAnyH_take (i := 24) (oi := { dst := some 34, op := Op.pick (Operand.tmp 17) (Operand.const (Value.bool true)) (Operand.tmp 33), type := 4, pos := "ref.go:39", after := #[{ on := 7, ground := Ground.data }, { on := 23, ground := Ground.data }], guard := none }) (v := ?v55x24) rfl (by kernel_rfl) (by kernel_rfl) (by kernel_rfl) (fun _ _ _ h => h) (Or.inl ⟨by rfl, ?y55x24⟩) hn ?r55x24
            case y55x24 => (intro wS hS; (try go_simp); (try with_reducible rfl))
            try simp only [Act.put, List.setIfInBounds_toArray, List.set_cons_zero, List.set_cons_succ]
            refine wpAnyH_done (by kernel_rfl) ?_ _
            refine NoPanic.normal ?_
            clear e1 e2 e3
            have HH := hid hn
            clear hn
            go_wp2_with fail
            go_ret
            exact ⟨_, rfl, iff_of_false (by decide) (fun h => HLT.out (HR.out h)), HH.out⟩
    · obtain rfl : i = xs.length := by omega
      have HW := hid hnw
      have HR : Hid (NRight xs) := by
        refine ⟨fun k h => ?_, fun x hx => ?_⟩
        · have h' : k + 1 < xs.length := by simpa using h
          have := hno k h' h'
          simpa using this
        · obtain ⟨j, hj, rfl⟩ := List.mem_iff_getElem.1 hx
          exact htx j hj hj
      clear hnw htx hno
      go_wp2_with fail
      go_ret
      exact ⟨_, rfl, iff_of_true rfl HR.out, HW.out⟩
theorem lack_iff {hm hf hl : Bool} {md : ByteArray} {fs : List (Nat × ByteArray)} {ls : List (Nat × List (Nat × ByteArray))} {b : Bool} (h : b = true ↔ ((hm = false ∧ 0 < md.size) ∨ (hf = false ∧ 0 < fs.length) ∨ (hl = false ∧ 0 < ls.length))) : b = false ↔ Lack ⟨hm, hf, hl, md, fs, ls⟩ := by
  unfold Lack
  simp only
  rw [← Bool.not_eq_true, h]
  have e1 : hm = false ↔ ¬ hm = true := by cases hm <;> simp
  have e2 : hf = false ↔ ¬ hf = true := by cases hf <;> simp
  have e3 : hl = false ↔ ¬ hl = true := by cases hl <;> simp
  rw [e1, e2, e3]
  by_cases a1 : hm = true <;> by_cases a2 : hf = true <;> by_cases a3 : hl = true <;> simp only [a1, a2, a3, Bool.false_eq_true, not_true_eq_false, not_false_eq_true, false_and, true_and, false_or, or_false, true_or, and_true, not_or] <;> omega
theorem rNsRight_any {B : Nat → Prop} (N : Nms) (f l : Value) (w : World) (h1 : RdE 2 (E2 FN) w B f N.fs) (h2 : RdE 2 (E2 FL) w B l N.ls) (hs : Sz N) :
    Calls Try.prog 16 #[nv N f l] w (SameP (NsRight N) w) := by
  have HV := hid (fun w => rText_any N.md w (by have := hs.1; omega))
  obtain ⟨bl, hbl⟩ := boolOf (NRight N.fs)
  have HF : Hid (∀ w', New w w' → Calls Try.prog 49 #[f] w' (IsNew bl w')) := fun w' hn =>
    (rList_any f N.fs w' (h1.new (E2.ok FN.ok) hn) hs.2.1).mono fun _ _ h => SameP.mk2 hbl h
  have HBL := hid hbl
  have HL := hid h2
  have HSL := hid hs.2.2
  obtain ⟨a1, c1, rfl⟩ := h1.shape
  obtain ⟨a2, c2, rfl⟩ := h2.shape
  clear h1 h2 hbl hs
  obtain ⟨hm, hf, hl, md, fs, ls⟩ := N
  obtain ⟨w2, hw2⟩ : ∃ w2, w.alloc (.cells #[.bool hm, .bool hf, .bool hl, .string md, .slice a1 fs.length c1, .slice a2 ls.length c2] 45) = w2 := ⟨_, rfl⟩
  have HN : Hid (New w w2) := by show New _ _; rw [← hw2]; exact (Upd.refl _ _).alloc _
  have HB : Hid (NBox w2 w.heap.size ⟨hm, hf, hl, md, fs, ls⟩ (.slice a1 fs.length c1) (.slice a2 ls.length c2) 45) := by show NBox _ _ _ _ _ _; rw [← hw2]; exact hp_new rfl
  obtain ⟨z0, z1, z2, z3, z4, z5⟩ := HB.out.cs
  unfold nv
  simp only at *
  obtain ⟨t, ht⟩ : ∃ t, textV md = t := ⟨_, rfl⟩
  rw [ht] at HV
  have HT := hid ht
  have HW := hid hw2
  clear hw2 ht
  go_enter Try.func16, Try.ntmps16
  go_upto_region 1 with fail
  rw [HW.out]
  clear HW
  generalize Value.agg #[.bool hm, .bool hf, .bool hl, .string md, .slice a1 fs.length c1, .slice a2 ls.length c2] = A0
  go_cut [45] (fun t wx => ∃ b, t = .bool b ∧ (b = false ↔ (Lack ⟨hm, hf, hl, md, fs, ls⟩ ∧ textV md = true ∧ NRight fs)) ∧ New w2 wx)
  case first =>
    refine wp_region_lit ?_
    refine wpList_cutK 8 (fun a a' w' => ∃ (v4 v5 v6 v7 v8 v9 v10 : Value) (b : Bool), a' = puts a [(4, v4), (5, v5), (6, v6), (7, v7), (8, v8), (9, v9), (10, v10), (11, .bool b)] ∧ (b = true ↔ (hm = false ∧ 0 < md.size)) ∧ New w2 w') ?_ ?_
    · intro J HJ
      simp only [List.take_succ_cons, List.take_zero]
      cases hm with
      | true =>
        go_wp2_with fail
        refine HJ.out _ _ ⟨?_, ?_, ?_, ?_, ?_, ?_, ?_, ?_, ?_, ?_, Upd.refl _ _⟩
        rotate_left 8
        · simp only [puts, List.foldl_cons, List.foldl_nil, Act.put, List.setIfInBounds_toArray, List.set_cons_zero, List.set_cons_succ]
          rfl
        · exact iff_of_false (by decide) (fun h => Bool.noConfusion h.1)
      | false =>
        by_cases hmd : md.toList = []
        · have HM := hid ((tlz md).1 hmd)
          go_wp2_with fail
          refine HJ.out _ _ ⟨?_, ?_, ?_, ?_, ?_, ?_, ?_, ?_, ?_, ?_, Upd.refl _ _⟩
          rotate_left 8
          · simp only [puts, List.foldl_cons, List.foldl_nil, Act.put, List.setIfInBounds_toArray, List.set_cons_zero, List.set_cons_succ]
            rfl
          · exact iff_of_false (by decide) (fun h => absurd h.2 (by have := HM.out; omega))
        · have HM := hid (fun h => hmd ((tlz md).2 h))
          go_wp2_with fail
          refine HJ.out _ _ ⟨?_, ?_, ?_, ?_, ?_, ?_, ?_, ?_, ?_, ?_, Upd.refl _ _⟩
          rotate_left 8
          · simp only [puts, List.foldl_cons, List.foldl_nil, Act.put, List.setIfInBounds_toArray, List.set_cons_zero, List.set_cons_succ]
            rfl
          · exact iff_of_true (by first | rfl | simp [hmd]) ⟨by first | rfl | trivial, Nat.pos_of_ne_zero HM.out⟩
    · rintro a' wa ⟨v4, v5, v6, v7, v8, v9, v10, b1, rfl, hb, hn⟩
      simp only [List.drop_succ_cons, List.drop_zero, puts, List.foldl_cons, List.foldl_nil, Act.put, List.setIfInBounds_toArray, List.set_cons_zero, List.set_cons_succ]
      have H1 := hid hb
      have NH1 := hid hn
      clear hb hn
      obtain ⟨z0, z1, z2, z3, z4, z5⟩ := NBox.cs (hp1 HB.out NH1.out)
      simp only at z0 z1 z2 z3 z4 z5
      refine wpList_cutK 11 (fun a a' w' => ∃ (v12 v13 v14 v15 v16 v17 v18 v19 v20 v21 : Value) (b : Bool), a' = puts a [(12, v12), (13, v13), (14, v14), (15, v15), (16, v16), (17, v17), (18, v18), (19, v19), (20, v20), (21, v21), (22, .bool b)] ∧ (b = true ↔ ((hm = false ∧ 0 < md.size) ∨ (hf = false ∧ 0 < fs.length))) ∧ New w2 w') ?_ ?_
      · intro J HJ
        simp only [List.take_succ_cons, List.take_zero]
        cases b1 with
        | true =>
          go_wp2_with fail
          refine HJ.out _ _ ⟨?_, ?_, ?_, ?_, ?_, ?_, ?_, ?_, ?_, ?_, ?_, ?_, ?_, NH1.out⟩
          rotate_left 11
          · simp only [puts, List.foldl_cons, List.foldl_nil, Act.put, List.setIfInBounds_toArray, List.set_cons_zero, List.set_cons_succ]
            rfl
          · exact iff_of_true rfl (.inl (H1.out.1 (by first | rfl | trivial)))
        | false =>
          have HF1 := hid (fun h => Bool.noConfusion (H1.out.2 h) : ¬ (hm = false ∧ 0 < md.size))
          clear H1
          cases hf with
          | true =>
            go_wp2_with fail
            refine HJ.out _ _ ⟨?_, ?_, ?_, ?_, ?_, ?_, ?_, ?_, ?_, ?_, ?_, ?_, ?_, NH1.out⟩
            rotate_left 11
            · simp only [puts, List.foldl_cons, List.foldl_nil, Act.put, List.setIfInBounds_toArray, List.set_cons_zero, List.set_cons_succ]
              rfl
            · exact iff_of_false (by decide) (fun h => h.elim HF1.out (fun h => Bool.noConfusion h.1))
          | false =>
            by_cases hfs : 0 < fs.length
            · have HM := hid hfs
              go_wp2_with fail
              refine HJ.out _ _ ⟨?_, ?_, ?_, ?_, ?_, ?_, ?_, ?_, ?_, ?_, ?_, ?_, ?_, NH1.out⟩
              rotate_left 11
              · simp only [puts, List.foldl_cons, List.foldl_nil, Act.put, List.setIfInBounds_toArray, List.set_cons_zero, List.set_cons_succ]
                rfl
              · exact iff_of_true (by first | rfl | simp [HM.out]) (.inr ⟨by first | rfl | trivial, HM.out⟩)
            · have HM := hid hfs
              go_wp2_with fail
              refine HJ.out _ _ ⟨?_, ?_, ?_, ?_, ?_, ?_, ?_, ?_, ?_, ?_, ?_, ?_, ?_, NH1.out⟩
              rotate_left 11
              · simp only [puts, List.foldl_cons, List.foldl_nil, Act.put, List.setIfInBounds_toArray, List.set_cons_zero, List.set_cons_succ]
                rfl
              · exact iff_of_false (by first | decide | simp [HM.out]) (fun h => h.elim HF1.out (fun h => HM.out h.2))
      · rintro a' wb ⟨v12, v13, v14, v15, v16, v17, v18, v19, v20, v21, b2, rfl, hb, hn⟩
        simp only [List.drop_succ_cons, List.drop_zero, puts, List.foldl_cons, List.foldl_nil, Act.put, List.setIfInBounds_toArray, List.set_cons_zero, List.set_cons_succ]
        have H2 := hid hb
        have NH2 := hid hn
        clear hb hn
        obtain ⟨z0, z1, z2, z3, z4, z5⟩ := NBox.cs (hp1 HB.out NH2.out)
        simp only at z0 z1 z2 z3 z4 z5
        refine wpList_cutK 11 (fun a a' w' => ∃ (v23 v24 v25 v26 v27 v28 v29 v30 v31 v32 : Value) (b : Bool), a' = puts a [(23, v23), (24, v24), (25, v25), (26, v26), (27, v27), (28, v28), (29, v29), (30, v30), (31, v31), (32, v32), (33, .bool b)] ∧ (b = true ↔ ((hm = false ∧ 0 < md.size) ∨ (hf = false ∧ 0 < fs.length) ∨ (hl = false ∧ 0 < ls.length))) ∧ New w2 w') ?_ ?_
        · intro J HJ
          simp only [List.take_succ_cons, List.take_zero]
          cases b2 with
          | true =>
            go_wp2_with fail
            refine HJ.out _ _ ⟨?_, ?_, ?_, ?_, ?_, ?_, ?_, ?_, ?_, ?_, ?_, ?_, ?_, NH2.out⟩
            rotate_left 11
            · simp only [puts, List.foldl_cons, List.foldl_nil, Act.put, List.setIfInBounds_toArray, List.set_cons_zero, List.set_cons_succ]
              rfl
            · exact iff_of_true rfl ((H2.out.1 (by first | rfl | trivial)).elim .inl (fun h => .inr (.inl h)))
          | false =>
            have HF1 := hid (fun h => Bool.noConfusion (H2.out.2 h) : ¬ ((hm = false ∧ 0 < md.size) ∨ (hf = false ∧ 0 < fs.length)))
            clear H1 H2
            cases hl with
            | true =>
              go_wp2_with fail
              refine HJ.out _ _ ⟨?_, ?_, ?_, ?_, ?_, ?_, ?_, ?_, ?_, ?_, ?_, ?_, ?_, NH2.out⟩
              rotate_left 11
              · simp only [puts, List.foldl_cons, List.foldl_nil, Act.put, List.setIfInBounds_toArray, List.set_cons_zero, List.set_cons_succ]
                rfl
              · exact iff_of_false (by decide) (fun h => h.elim (fun h => HF1.out (.inl h)) (fun h => h.elim (fun h => HF1.out (.inr h)) (fun h => Bool.noConfusion h.1)))
            | false =>
              by_cases hls : 0 < ls.length
              · have HM := hid hls
                go_wp2_with fail
                refine HJ.out _ _ ⟨?_, ?_, ?_, ?_, ?_, ?_, ?_, ?_, ?_, ?_, ?_, ?_, ?_, NH2.out⟩
                rotate_left 11
                · simp only [puts, List.foldl_cons, List.foldl_nil, Act.put, List.setIfInBounds_toArray, List.set_cons_zero, List.set_cons_succ]
                  rfl
                · exact iff_of_true (by first | rfl | simp [HM.out]) (.inr (.inr ⟨by first | rfl | trivial, HM.out⟩))
              · have HM := hid hls
                go_wp2_with fail
                refine HJ.out _ _ ⟨?_, ?_, ?_, ?_, ?_, ?_, ?_, ?_, ?_, ?_, ?_, ?_, ?_, NH2.out⟩
                rotate_left 11
                · simp only [puts, List.foldl_cons, List.foldl_nil, Act.put, List.setIfInBounds_toArray, List.set_cons_zero, List.set_cons_succ]
                  rfl
                · exact iff_of_false (by first | decide | simp [HM.out]) (fun h => h.elim (fun h => HF1.out (.inl h)) (fun h => h.elim (fun h => HF1.out (.inr h)) (fun h => HM.out h.2)))
        · rintro a' wc3 ⟨v23, v24, v25, v26, v27, v28, v29, v30, v31, v32, b3, rfl, hb, hn⟩
          simp only [List.drop_succ_cons, List.drop_zero, puts, List.foldl_cons, List.foldl_nil, Act.put, List.setIfInBounds_toArray, List.set_cons_zero, List.set_cons_succ]
          have H3 := hid hb
          have NH3 := hid hn
          clear hb hn
          obtain ⟨z0, z1, z2, z3, z4, z5⟩ := NBox.cs (hp1 HB.out NH3.out)
          simp only at z0 z1 z2 z3 z4 z5
          have HLK : Hid (b3 = false ↔ Lack ⟨hm, hf, hl, md, fs, ls⟩) := lack_iff H3.out
          clear H1 H2 H3 NH1 NH2
          cases b3 with
          | true =>
            have HM := hid (fun h => Bool.noConfusion (HLK.out.2 h) : ¬ Lack ⟨hm, hf, hl, md, fs, ls⟩)
            clear HLK
            go_wp2_with fail
            go_meet
            exact ⟨true, rfl, iff_of_false (by decide) (fun h => HM.out h.1), NH3.out⟩
          | false =>
            have HM := hid (HLK.out.1 rfl)
            clear HLK
            go_wp2_with fail
            refine (HV.out _).mono ?_
            rintro e wd ⟨rfl, hq⟩
            have NHd := hid (New.trans NH3.out hq)
            clear z0 z1 z2 z3 z4 z5
            obtain ⟨z0, z1, z2, z3, z4, z5⟩ := NBox.cs (hp1 HB.out NHd.out)
            simp only at z0 z1 z2 z3 z4 z5
            clear hq
            cases t with
            | false =>
              go_wp2_with fail
              go_meet
              exact ⟨true, rfl, iff_of_false (by decide) (fun h => by have := h.2.1; rw [HT.out] at this; cases this), NHd.out⟩
            | true =>
              go_wp2_with fail
              refine (HF.out _ (New.trans HN.out NHd.out)).mono ?_
              rintro e we ⟨rfl, hq⟩
              have NHe := hid (New.trans NHd.out hq)
              clear hq z0 z1 z2 z3 z4 z5
              cases bl with
              | false =>
                have HM2 := hid (fun h => Bool.noConfusion (HBL.out.2 h) : ¬ NRight fs)
                clear HBL
                go_wp2_with fail
                go_meet
                exact ⟨true, rfl, iff_of_false (by decide) (fun h => HM2.out h.2.2), NHe.out⟩
              | true =>
                have HM2 := hid (HBL.out.1 (by first | rfl | trivial))
                clear HBL
                go_wp2_with fail
                go_meet
                exact ⟨false, rfl, iff_of_true rfl ⟨HM.out, HT.out, HM2.out⟩, NHe.out⟩
  case rest =>
  obtain ⟨bb, rfl, hbb, hn⟩ := hcut
  obtain ⟨w3, rfl⟩ : ∃ w3, w3 = wc := ⟨_, rfl⟩
  have HN3 := hid hn
  clear hn z0 z1 z2 z3 z4 z5
  cases bb with
  | true =>
    have HM := hid (fun h => Bool.noConfusion (hbb.2 h) : ¬ (Lack ⟨hm, hf, hl, md, fs, ls⟩ ∧ textV md = true ∧ NRight fs))
    clear hbb
    go_wp2_with fail
    go_ret
    exact ⟨_, rfl, iff_of_false (by decide) (fun h => HM.out ⟨h.1, h.2.1, h.2.2.1⟩), New.trans HN.out HN3.out⟩
  | false =>
  have HM := hid (hbb.1 rfl)
  have hl10 : ls.length ≤ 10000 := HSL.out.1
  obtain ⟨_, _, e, hat⟩ := e2_at HL.out
  cases e
  have HAT := hid hat
  clear hbb hat
  go_wp2_with fail
  go_loopw [3] (fun c wr => ∃ i : Nat, c = .int .i64 i ∧ i ≤ ls.length ∧ (∀ k (h : k < ls.length), k < i → NRight ls[k].2) ∧ (∀ k (h : k + 1 < ls.length), k + 1 < i → (ls[k]).1 < (ls[k + 1]).1) ∧ New w2 wr) (fun c _ => ls.length - (intOf c).toNat)
  case atStart => exact ⟨0, rfl, by omega, fun k _ h => absurd h (by omega), fun k _ h => absurd h (by omega), HN3.out⟩
  case round =>
    obtain ⟨i, rfl, hi1, htx, hno, hnw⟩ := hrel
    obtain ⟨z0, z1, z2, z3, z4, z5⟩ := NBox.cs (hp1 HB.out hnw)
    simp only at z0 z1 z2 z3 z4 z5
    by_cases hi : i < ls.length
    · obtain ⟨b, o, u, rfl, hc0, hc1, hu⟩ := HAT.out i hi
      have hu : RdE 2 (E2 FN) w B u ls[i].2 := hu
      obtain ⟨bi, hbi⟩ := boolOf (NRight ls[i].2)
      have HLI : Hid (∀ w', New w w' → Calls Try.prog 49 #[u] w' (IsNew bi w')) := fun w' hn =>
        (rList_any u ls[i].2 w' (hu.new (E2.ok FN.ok) hn) (HSL.out.2 _ (List.getElem_mem hi))).mono fun _ _ h => SameP.mk2 hbi h
      have HN1 : Hid (NsRight ⟨hm, hf, hl, md, fs, ls⟩ → NRight ls[i].2) := fun h => h.2.2.2.2 _ (List.getElem_mem hi)
      have HTX : Hid (NRight ls[i].2 → ∀ k (h : k < ls.length), k < i + 1 → NRight ls[k].2) := by
        show NRight ls[i].2 → ∀ k (h : k < ls.length), k < i + 1 → NRight ls[k].2
        intro h0 k h h1
        rcases Nat.lt_or_ge k i with h3 | h3
        · exact htx k h h3
        · obtain rfl : k = i := by omega
          exact h0
      obtain ⟨ua, uc, rfl⟩ := hu.shape
      have HNO := hid hno
      have q0 := hid hc0
      have q1 := hid hc1
      have hn : New w2 wr.drew := hnw.drew
      have HBI := hid hbi
      clear htx hno hnw hc0 hc1 hu hbi
      cases bi with
      | false =>
        have HNB := hid (fun h => Bool.noConfusion (HBI.out.2 h) : ¬ NRight ls[i].2)
        clear HBI
        have HFF := hid (fun h => HNB.out (HN1.out h))
        clear HNB HN1 HTX
        generalize ls[i] = x at *
        obtain ⟨m, y⟩ := x
        simp only at q0 q1 HLI
        go_wp2_with fail
        clear z0 z1 z2 z3 z4 z5
        refine wp_region_noPanic ?_
        refine wp_region_held_drew (S := (New w2)) (by kernel_rfl) (by first | exact hn | exact (Upd.refl _ _).drew | exact Upd.drew (by assumption)) (fun hn => ?_)
        generalize wr.drew = wd at *
        refine wpAnyH_take (i := 0) (oi := { dst := some 53, op := Op.fieldAddr 45 (Operand.tmp 1) 5, type := 0, pos := "ref.go:52", after := #[], guard := none }) (v := ?v56x1) rfl (by kernel_rfl) (by kernel_rfl) (by kernel_rfl) (fun _ _ _ h => h) (Or.inl ⟨by rfl, ?y56x1⟩) hn ?r56x1
        case y56x1 => (intro wS hS; (try go_simp); (try with_reducible rfl))
        try simp only [Act.put, List.setIfInBounds_toArray, List.set_cons_zero, List.set_cons_succ]
        refine wpAnyH_take (i := 1) (oi := { dst := some 54, op := Op.load 43 (Operand.tmp 53), type := 43, pos := "ref.go:52", after := #[{ on := 0, ground := Ground.data }], guard := none }) (v := ?v56x2) rfl (by kernel_rfl) (by kernel_rfl) (by kernel_rfl) (fun _ _ _ h => h) (Or.inl ⟨by rfl, ?y56x2⟩) hn ?r56x2
        case y56x2 => (intro wS hS; have c0 := cellAt (hp1 HB.out hS) 5 (v := .slice (some ⟨b, o, none⟩) ls.length c2) rfl; (try go_simp); (try with_reducible rfl))
        try simp only [Act.put, List.setIfInBounds_toArray, List.set_cons_zero, List.set_cons_succ]
        refine wpAnyH_take (i := 2) (oi := { dst := some 55, op := Op.move (Operand.tmp 3), type := 3, pos := "ref.go:52", after := #[], guard := none }) (v := ?v56x3) rfl (by kernel_rfl) (by kernel_rfl) (by kernel_rfl) (fun _ _ _ h => h) (Or.inl ⟨by rfl, ?y56x3⟩) hn ?r56x3
        case y56x3 => (intro wS hS; (try go_simp); (try with_reducible rfl))
        try simp only [Act.put, List.setIfInBounds_toArray, List.set_cons_zero, List.set_cons_succ]
        refine wpAnyH_take (i := 3) (oi := { dst := some 56, op := Op.indexAddr 43 (Operand.tmp 54) (Operand.tmp 55), type := 0, pos := "ref.go:52", after := #[{ on := 1, ground := Ground.data }, { on := 2, ground := Ground.data }], guard := none }) (v := ?v56x4) rfl (by kernel_rfl) (by kernel_rfl) (by kernel_rfl) (fun _ _ _ h => h) (Or.inl ⟨by rfl, ?y56x4⟩) hn ?r56x4
        case y56x4 => (intro wS hS; (try go_simp); (try with_reducible rfl))
        try simp only [Act.put, List.setIfInBounds_toArray, List.set_cons_zero, List.set_cons_succ]
        refine wpAnyH_take (i := 4) (oi := { dst := some 57, op := Op.fieldAddr 88 (Operand.tmp 56) 1, type := 0, pos := "ref.go:52", after := #[{ on := 3, ground := Ground.data }], guard := none }) (v := ?v56x5) rfl (by kernel_rfl) (by kernel_rfl) (by kernel_rfl) (fun _ _ _ h => h) (Or.inl ⟨by rfl, ?y56x5⟩) hn ?r56x5
        case y56x5 => (intro wS hS; (try go_simp); (try with_reducible rfl))
        try simp only [Act.put, List.setIfInBounds_toArray, List.set_cons_zero, List.set_cons_succ]
        refine wpAnyH_take (i := 5) (oi := { dst := some 58, op := Op.load 42 (Operand.tmp 57), type := 42, pos := "ref.go:52", after := #[{ on := 4, ground := Ground.data }], guard := none }) (v := ?v56x6) rfl (by kernel_rfl) (by kernel_rfl) (by kernel_rfl) (fun _ _ _ h => h) (Or.inl ⟨by rfl, ?y56x6⟩) hn ?r56x6
        case y56x6 => (intro wS hS; have c1 := (New.trans HN.out hS).cell q1.out (fun h => h); (try go_simp); (try with_reducible rfl))
        try simp only [Act.put, List.setIfInBounds_toArray, List.set_cons_zero, List.set_cons_succ]
        refine wpAnyH_ready (rs := [6]) (by kernel_rfl) (by simp) ?_
        refine AllReadyH.cons (o := { dst := some 59, op := Op.call { callee := Callee.value (Operand.func 49), args := #[Operand.tmp 58], argTypes := #[42] }, type := 4, pos := "ref.go:52", after := #[{ on := 5, ground := Ground.data }], guard := none }) rfl (fun K hK => ?_) AllReadyH.nil
        go_simp
        refine (HLI.out _ (New.trans HN.out hn)).mono ?_
        rintro e wq ⟨rfl, hnq⟩
        go_wp2_with fail
        have hn := New.trans hn hnq
        refine hK.out _ _ (by first | exact hn | exact Upd.alloc hn _) (fun hn => ?_)
        clear hK K
        try simp only [Act.put, List.setIfInBounds_toArray, List.set_cons_zero, List.set_cons_succ]
        refine wpAnyH_take (i := 7) (oi := { dst := some 60, op := Op.unOp UnOp.not 4 (Operand.tmp 59), type := 4, pos := "ref.go:52", after := #[{ on := 6, ground := Ground.data }], guard := none }) (v := ?v56x7) rfl (by kernel_rfl) (by kernel_rfl) (by kernel_rfl) (fun _ _ _ h => h) (Or.inl ⟨by rfl, ?y56x7⟩) hn ?r56x7
        case y56x7 => (intro wS hS; (try go_simp); (try with_reducible rfl))
        try simp only [Act.put, List.setIfInBounds_toArray, List.set_cons_zero, List.set_cons_succ]
        refine wpAnyH_take (i := 8) (oi := { dst := some 61, op := Op.move (Operand.tmp 60), type := 4, pos := "ref.go:52", after := #[{ on := 7, ground := Ground.data }, { on := 6, ground := Ground.chain }], guard := none }) (v := ?v56x8) rfl (by kernel_rfl) (by kernel_rfl) (by kernel_rfl) (fun _ _ _ h => h) (Or.inl ⟨by rfl, ?y56x8⟩) hn ?r56x8
        case y56x8 => (intro wS hS; (try go_simp); (try with_reducible rfl))
        try simp only [Act.put, List.setIfInBounds_toArray, List.set_cons_zero, List.set_cons_succ]
        refine wpAnyH_take (i := 9) (oi := { dst := some 62, op := Op.move (Operand.tmp 3), type := 3, pos := "ref.go:52", after := #[{ on := 8, ground := Ground.guard }], guard := some (8, false) }) (v := undef) rfl (by kernel_rfl) (by kernel_rfl) (by kernel_rfl) (fun _ _ _ h => h) (Or.inr ⟨by rfl, rfl⟩) hn ?_
        try simp only [Act.put, List.setIfInBounds_toArray, List.set_cons_zero, List.set_cons_succ]
        refine wpAnyH_take (i := 10) (oi := { dst := some 63, op := Op.binOp BinOp.gtr 3 (Operand.tmp 62) (Operand.const (Value.int IntKind.i64 0)) 3, type := 4, pos := "ref.go:52", after := #[{ on := 9, ground := Ground.data }, { on := 8, ground := Ground.guard }], guard := some (8, false) }) (v := undef) rfl (by kernel_rfl) (by kernel_rfl) (by kernel_rfl) (fun _ _ _ h => h) (Or.inr ⟨by rfl, rfl⟩) hn ?_
        try simp only [Act.put, List.setIfInBounds_toArray, List.set_cons_zero, List.set_cons_succ]
        refine wpAnyH_take (i := 11) (oi := { dst := some 64, op := Op.move (Operand.tmp 63), type := 4, pos := "ref.go:52", after := #[{ on := 10, ground := Ground.data }, { on := 8, ground := Ground.chain }, { on := 8, ground := Ground.guard }], guard := some (8, false) }) (v := undef) rfl (by kernel_rfl) (by kernel_rfl) (by kernel_rfl) (fun _ _ _ h => h) (Or.inr ⟨by rfl, rfl⟩) hn ?_
        try simp only [Act.put, List.setIfInBounds_toArray, List.set_cons_zero, List.set_cons_succ]
        refine wpAnyH_take (i := 12) (oi := { dst := some 65, op := Op.fieldAddr 45 (Operand.tmp 1) 5, type := 0, pos := "ref.go:52", after := #[{ on := 11, ground := Ground.guard }], guard := some (11, true) }) (v := undef) rfl (by kernel_rfl) (by kernel_rfl) (by kernel_rfl) (fun _ _ _ h => h) (Or.inr ⟨by rfl, rfl⟩) hn ?_
        try simp only [Act.put, List.setIfInBounds_toArray, List.set_cons_zero, List.set_cons_succ]
        refine wpAnyH_take (i := 13) (oi := { dst := some 66, op := Op.load 43 (Operand.tmp 65), type := 43, pos := "ref.go:52", after := #[{ on := 12, ground := Ground.data }, { on := 11, ground := Ground.guard }], guard := some (11, true) }) (v := undef) rfl (by kernel_rfl) (by kernel_rfl) (by kernel_rfl) (fun _ _ _ h => h) (Or.inr ⟨by rfl, rfl⟩) hn ?_
        try simp only [Act.put, List.setIfInBounds_toArray, List.set_cons_zero, List.set_cons_succ]
        refine wpAnyH_take (i := 14) (oi := { dst := some 67, op := Op.move (Operand.tmp 3), type := 3, pos := "ref.go:52", after := #[{ on := 11, ground := Ground.guard }], guard := some (11, true) }) (v := undef) rfl (by kernel_rfl) (by kernel_rfl) (by kernel_rfl) (fun _ _ _ h => h) (Or.inr ⟨by rfl, rfl⟩) hn ?_
        try simp only [Act.put, List.setIfInBounds_toArray, List.set_cons_zero, List.set_cons_succ]
        refine wpAnyH_take (i := 15) (oi := { dst := some 68, op := Op.indexAddr 43 (Operand.tmp 66) (Operand.tmp 67), type := 0, pos := "ref.go:52", after := #[{ on := 13, ground := Ground.data }, { on := 14, ground := Ground.data }, { on := 11, ground := Ground.guard }], guard := some (11, true) }) (v := undef) rfl (by kernel_rfl) (by kernel_rfl) (by kernel_rfl) (fun _ _ _ h => h) (Or.inr ⟨by rfl, rfl⟩) hn ?_
        try simp only [Act.put, List.setIfInBounds_toArray, List.set_cons_zero, List.set_cons_succ]
        refine wpAnyH_take (i := 16) (oi := { dst := some 69, op := Op.fieldAddr 88 (Operand.tmp 68) 0, type := 0, pos := "ref.go:52", after := #[{ on := 15, ground := Ground.data }, { on := 11, ground := Ground.guard }], guard := some (11, true) }) (v := undef) rfl (by kernel_rfl) (by kernel_rfl) (by kernel_rfl) (fun _ _ _ h => h) (Or.inr ⟨by rfl, rfl⟩) hn ?_
        try simp only [Act.put, List.setIfInBounds_toArray, List.set_cons_zero, List.set_cons_succ]
        refine wpAnyH_take (i := 17) (oi := { dst := some 70, op := Op.load 22 (Operand.tmp 69), type := 22, pos := "ref.go:52", after := #[{ on := 16, ground := Ground.data }, { on := 11, ground := Ground.guard }], guard := some (11, true) }) (v := undef) rfl (by kernel_rfl) (by kernel_rfl) (by kernel_rfl) (fun _ _ _ h => h) (Or.inr ⟨by rfl, rfl⟩) hn ?_
        try simp only [Act.put, List.setIfInBounds_toArray, List.set_cons_zero, List.set_cons_succ]
        refine wpAnyH_take (i := 18) (oi := { dst := some 71, op := Op.fieldAddr 45 (Operand.tmp 1) 5, type := 0, pos := "ref.go:52", after := #[{ on := 11, ground := Ground.guard }], guard := some (11, true) }) (v := undef) rfl (by kernel_rfl) (by kernel_rfl) (by kernel_rfl) (fun _ _ _ h => h) (Or.inr ⟨by rfl, rfl⟩) hn ?_
        try simp only [Act.put, List.setIfInBounds_toArray, List.set_cons_zero, List.set_cons_succ]
        refine wpAnyH_take (i := 19) (oi := { dst := some 72, op := Op.load 43 (Operand.tmp 71), type := 43, pos := "ref.go:52", after := #[{ on := 18, ground := Ground.data }, { on := 11, ground := Ground.guard }], guard := some (11, true) }) (v := undef) rfl (by kernel_rfl) (by kernel_rfl) (by kernel_rfl) (fun _ _ _ h => h) (Or.inr ⟨by rfl, rfl⟩) hn ?_
        try simp only [Act.put, List.setIfInBounds_toArray, List.set_cons_zero, List.set_cons_succ]
        refine wpAnyH_take (i := 20) (oi := { dst := some 73, op := Op.move (Operand.tmp 3), type := 3, pos := "ref.go:52", after := #[{ on := 11, ground := Ground.guard }], guard := some (11, true) }) (v := undef) rfl (by kernel_rfl) (by kernel_rfl) (by kernel_rfl) (fun _ _ _ h => h) (Or.inr ⟨by rfl, rfl⟩) hn ?_
        try simp only [Act.put, List.setIfInBounds_toArray, List.set_cons_zero, List.set_cons_succ]
        refine wpAnyH_take (i := 21) (oi := { dst := some 74, op := Op.binOp BinOp.sub 3 (Operand.tmp 73) (Operand.const (Value.int IntKind.i64 1)) 3, type := 3, pos := "ref.go:52", after := #[{ on := 20, ground := Ground.data }, { on := 11, ground := Ground.guard }], guard := some (11, true) }) (v := undef) rfl (by kernel_rfl) (by kernel_rfl) (by kernel_rfl) (fun _ _ _ h => h) (Or.inr ⟨by rfl, rfl⟩) hn ?_
        try simp only [Act.put, List.setIfInBounds_toArray, List.set_cons_zero, List.set_cons_succ]
        refine wpAnyH_take (i := 22) (oi := { dst := some 75, op := Op.indexAddr 43 (Operand.tmp 72) (Operand.tmp 74), type := 0, pos := "ref.go:52", after := #[{ on := 19, ground := Ground.data }, { on := 21, ground := Ground.data }, { on := 11, ground := Ground.guard }], guard := some (11, true) }) (v := undef) rfl (by kernel_rfl) (by kernel_rfl) (by kernel_rfl) (fun _ _ _ h => h) (Or.inr ⟨by rfl, rfl⟩) hn ?_
        try simp only [Act.put, List.setIfInBounds_toArray, List.set_cons_zero, List.set_cons_succ]
        refine wpAnyH_take (i := 23) (oi := { dst := some 76, op := Op.fieldAddr 88 (Operand.tmp 75) 0, type := 0, pos := "ref.go:52", after := #[{ on := 22, ground := Ground.data }, { on := 11, ground := Ground.guard }], guard := some (11, true) }) (v := undef) rfl (by kernel_rfl) (by kernel_rfl) (by kernel_rfl) (fun _ _ _ h => h) (Or.inr ⟨by rfl, rfl⟩) hn ?_
        try simp only [Act.put, List.setIfInBounds_toArray, List.set_cons_zero, List.set_cons_succ]
        refine wpAnyH_take (i := 24) (oi := { dst := some 77, op := Op.load 22 (Operand.tmp 76), type := 22, pos := "ref.go:52", after := #[{ on := 23, ground := Ground.data }, { on := 11, ground := Ground.guard }], guard := some (11, true) }) (v := undef) rfl (by kernel_rfl) (by kernel_rfl) (by kernel_rfl) (fun _ _ _ h => h) (Or.inr ⟨by rfl, rfl⟩) hn ?_
        try simp only [Act.put, List.setIfInBounds_toArray, List.set_cons_zero, List.set_cons_succ]
        refine wpAnyH_take (i := 25) (oi := { dst := some 78, op := Op.binOp BinOp.leq 22 (Operand.tmp 70) (Operand.tmp 77) 22, type := 4, pos := "ref.go:52", after := #[{ on := 17, ground := Ground.data }, { on := 24, ground := Ground.data }, { on := 11, ground := Ground.guard }], guard := some (11, true) }) (v := undef) rfl (by kernel_rfl) (by kernel_rfl) (by kernel_rfl) (fun _ _ _ h => h) (Or.inr ⟨by rfl, rfl⟩) hn ?_
        try simp only [Act.put, List.setIfInBounds_toArray, List.set_cons_zero, List.set_cons_succ]
        refine wpAnyH_take (i := 26) (oi := { dst := some 79, op := Op.pick (Operand.tmp 64) (Operand.tmp 78) (Operand.const (Value.bool false)), type := 4, pos := "ref.go:52", after := #[{ on := 11, ground := Ground.data }, { on := 25, ground := Ground.data }, { on := 8, ground := Ground.guard }], guard := some (8, false) }) (v := undef) rfl (by kernel_rfl) (by kernel_rfl) (by kernel_rfl) (fun _ _ _ h => h) (Or.inr ⟨by rfl, rfl⟩) hn ?_
        try simp only [Act.put, List.setIfInBounds_toArray, List.set_cons_zero, List.set_cons_succ]
        refine wpAnyH_take (i := 27) (oi := { dst := some 80, op := Op.pick (Operand.tmp 61) (Operand.const (Value.bool true)) (Operand.tmp 79), type := 4, pos := "ref.go:52", after := #[{ on := 8, ground := Ground.data }, { on := 26, ground := Ground.data }], guard := none }) (v := ?v56x27) rfl (by kernel_rfl) (by kernel_rfl) (by kernel_rfl) (fun _ _ _ h => h) (Or.inl ⟨by rfl, ?y56x27⟩) hn ?r56x27
        case y56x27 => (intro wS hS; (try go_simp); (try with_reducible rfl))
        try simp only [Act.put, List.setIfInBounds_toArray, List.set_cons_zero, List.set_cons_succ]
        refine wpAnyH_done (by kernel_rfl) ?_ _
        refine NoPanic.normal ?_
        have HH := hid hn
        clear hn
        go_wp2_with fail
        go_ret
        exact ⟨_, rfl, iff_of_false (by decide) HFF.out, New.trans HN.out HH.out⟩
      | true =>
        have HTX2 := hid (HTX.out (HBI.out.1 (by first | rfl | trivial)))
        clear HBI HTX HN1
        rcases Nat.eq_zero_or_pos i with h0 | h0
        · have HNE : Hid (∀ k (h : k + 1 < ls.length), k + 1 < i + 1 → (ls[k]).1 < (ls[k + 1]).1) := fun k h h1 => absurd h1 (by omega)
          subst h0
          generalize ls[0] = x at *
          obtain ⟨m, y⟩ := x
          simp only at q0 q1 HLI
          go_wp2_with fail
          clear z0 z1 z2 z3 z4 z5
          refine wp_region_noPanic ?_
          refine wp_region_held_drew (S := (New w2)) (by kernel_rfl) (by first | exact hn | exact (Upd.refl _ _).drew | exact Upd.drew (by assumption)) (fun hn => ?_)
          generalize wr.drew = wd at *
          refine wpAnyH_take (i := 0) (oi := { dst := some 53, op := Op.fieldAddr 45 (Operand.tmp 1) 5, type := 0, pos := "ref.go:52", after := #[], guard := none }) (v := ?v57x1) rfl (by kernel_rfl) (by kernel_rfl) (by kernel_rfl) (fun _ _ _ h => h) (Or.inl ⟨by rfl, ?y57x1⟩) hn ?r57x1
          case y57x1 => (intro wS hS; (try go_simp); (try with_reducible rfl))
          try simp only [Act.put, List.setIfInBounds_toArray, List.set_cons_zero, List.set_cons_succ]
          refine wpAnyH_take (i := 1) (oi := { dst := some 54, op := Op.load 43 (Operand.tmp 53), type := 43, pos := "ref.go:52", after := #[{ on := 0, ground := Ground.data }], guard := none }) (v := ?v57x2) rfl (by kernel_rfl) (by kernel_rfl) (by kernel_rfl) (fun _ _ _ h => h) (Or.inl ⟨by rfl, ?y57x2⟩) hn ?r57x2
          case y57x2 => (intro wS hS; have c0 := cellAt (hp1 HB.out hS) 5 (v := .slice (some ⟨b, o, none⟩) ls.length c2) rfl; (try go_simp); (try with_reducible rfl))
          try simp only [Act.put, List.setIfInBounds_toArray, List.set_cons_zero, List.set_cons_succ]
          refine wpAnyH_take (i := 2) (oi := { dst := some 55, op := Op.move (Operand.tmp 3), type := 3, pos := "ref.go:52", after := #[], guard := none }) (v := ?v57x3) rfl (by kernel_rfl) (by kernel_rfl) (by kernel_rfl) (fun _ _ _ h => h) (Or.inl ⟨by rfl, ?y57x3⟩) hn ?r57x3
          case y57x3 => (intro wS hS; (try go_simp); (try with_reducible rfl))
          try simp only [Act.put, List.setIfInBounds_toArray, List.set_cons_zero, List.set_cons_succ]
          refine wpAnyH_take (i := 3) (oi := { dst := some 56, op := Op.indexAddr 43 (Operand.tmp 54) (Operand.tmp 55), type := 0, pos := "ref.go:52", after := #[{ on := 1, ground := Ground.data }, { on := 2, ground := Ground.data }], guard := none }) (v := ?v57x4) rfl (by kernel_rfl) (by kernel_rfl) (by kernel_rfl) (fun _ _ _ h => h) (Or.inl ⟨by rfl, ?y57x4⟩) hn ?r57x4
          case y57x4 => (intro wS hS; (try go_simp); (try with_reducible rfl))
          try simp only [Act.put, List.setIfInBounds_toArray, List.set_cons_zero, List.set_cons_succ]
          refine wpAnyH_take (i := 4) (oi := { dst := some 57, op := Op.fieldAddr 88 (Operand.tmp 56) 1, type := 0, pos := "ref.go:52", after := #[{ on := 3, ground := Ground.data }], guard := none }) (v := ?v57x5) rfl (by kernel_rfl) (by kernel_rfl) (by kernel_rfl) (fun _ _ _ h => h) (Or.inl ⟨by rfl, ?y57x5⟩) hn ?r57x5
          case y57x5 => (intro wS hS; (try go_simp); (try with_reducible rfl))
          try simp only [Act.put, List.setIfInBounds_toArray, List.set_cons_zero, List.set_cons_succ]
          refine wpAnyH_take (i := 5) (oi := { dst := some 58, op := Op.load 42 (Operand.tmp 57), type := 42, pos := "ref.go:52", after := #[{ on := 4, ground := Ground.data }], guard := none }) (v := ?v57x6) rfl (by kernel_rfl) (by kernel_rfl) (by kernel_rfl) (fun _ _ _ h => h) (Or.inl ⟨by rfl, ?y57x6⟩) hn ?r57x6
          case y57x6 => (intro wS hS; have c1 := (New.trans HN.out hS).cell q1.out (fun h => h); (try go_simp); (try with_reducible rfl))
          try simp only [Act.put, List.setIfInBounds_toArray, List.set_cons_zero, List.set_cons_succ]
          refine wpAnyH_ready (rs := [6]) (by kernel_rfl) (by simp) ?_
          refine AllReadyH.cons (o := { dst := some 59, op := Op.call { callee := Callee.value (Operand.func 49), args := #[Operand.tmp 58], argTypes := #[42] }, type := 4, pos := "ref.go:52", after := #[{ on := 5, ground := Ground.data }], guard := none }) rfl (fun K hK => ?_) AllReadyH.nil
          go_simp
          refine (HLI.out _ (New.trans HN.out hn)).mono ?_
          rintro e wq ⟨rfl, hnq⟩
          go_wp2_with fail
          have hn := New.trans hn hnq
          refine hK.out _ _ (by first | exact hn | exact Upd.alloc hn _) (fun hn => ?_)
          clear hK K
          try simp only [Act.put, List.setIfInBounds_toArray, List.set_cons_zero, List.set_cons_succ]
          refine wpAnyH_take (i := 7) (oi := { dst := some 60, op := Op.unOp UnOp.not 4 (Operand.tmp 59), type := 4, pos := "ref.go:52", after := #[{ on := 6, ground := Ground.data }], guard := none }) (v := ?v57x7) rfl (by kernel_rfl) (by kernel_rfl) (by kernel_rfl) (fun _ _ _ h => h) (Or.inl ⟨by rfl, ?y57x7⟩) hn ?r57x7
          case y57x7 => (intro wS hS; (try go_simp); (try with_reducible rfl))
          try simp only [Act.put, List.setIfInBounds_toArray, List.set_cons_zero, List.set_cons_succ]
          refine wpAnyH_take (i := 8) (oi := { dst := some 61, op := Op.move (Operand.tmp 60), type := 4, pos := "ref.go:52", after := #[{ on := 7, ground := Ground.data }, { on := 6, ground := Ground.chain }], guard := none }) (v := ?v57x8) rfl (by kernel_rfl) (by kernel_rfl) (by kernel_rfl) (fun _ _ _ h => h) (Or.inl ⟨by rfl, ?y57x8⟩) hn ?r57x8
          case y57x8 => (intro wS hS; (try go_simp); (try with_reducible rfl))
          try simp only [Act.put, List.setIfInBounds_toArray, List.set_cons_zero, List.set_cons_succ]
          refine wpAnyH_take (i := 9) (oi := { dst := some 62, op := Op.move (Operand.tmp 3), type := 3, pos := "ref.go:52", after := #[{ on := 8, ground := Ground.guard }], guard := some (8, false) }) (v := ?v57x9) rfl (by kernel_rfl) (by kernel_rfl) (by kernel_rfl) (fun _ _ _ h => h) (Or.inl ⟨by rfl, ?y57x9⟩) hn ?r57x9
          case y57x9 => (intro wS hS; (try go_simp); (try with_reducible rfl))
          try simp only [Act.put, List.setIfInBounds_toArray, List.set_cons_zero, List.set_cons_succ]
          refine wpAnyH_take (i := 10) (oi := { dst := some 63, op := Op.binOp BinOp.gtr 3 (Operand.tmp 62) (Operand.const (Value.int IntKind.i64 0)) 3, type := 4, pos := "ref.go:52", after := #[{ on := 9, ground := Ground.data }, { on := 8, ground := Ground.guard }], guard := some (8, false) }) (v := ?v57x10) rfl (by kernel_rfl) (by kernel_rfl) (by kernel_rfl) (fun _ _ _ h => h) (Or.inl ⟨by rfl, ?y57x10⟩) hn ?r57x10
          case y57x10 => (intro wS hS; (try go_simp); (try with_reducible rfl))
          try simp only [Act.put, List.setIfInBounds_toArray, List.set_cons_zero, List.set_cons_succ]
          refine wpAnyH_take (i := 11) (oi := { dst := some 64, op := Op.move (Operand.tmp 63), type := 4, pos := "ref.go:52", after := #[{ on := 10, ground := Ground.data }, { on := 8, ground := Ground.chain }, { on := 8, ground := Ground.guard }], guard := some (8, false) }) (v := ?v57x11) rfl (by kernel_rfl) (by kernel_rfl) (by kernel_rfl) (fun _ _ _ h => h) (Or.inl ⟨by rfl, ?y57x11⟩) hn ?r57x11
          case y57x11 => (intro wS hS; (try go_simp); (try with_reducible rfl))
          try simp only [Act.put, List.setIfInBounds_toArray, List.set_cons_zero, List.set_cons_succ]
          refine wpAnyH_take (i := 12) (oi := { dst := some 65, op := Op.fieldAddr 45 (Operand.tmp 1) 5, type := 0, pos := "ref.go:52", after := #[{ on := 11, ground := Ground.guard }], guard := some (11, true) }) (v := undef) rfl (by kernel_rfl) (by kernel_rfl) (by kernel_rfl) (fun _ _ _ h => h) (Or.inr ⟨by rfl, rfl⟩) hn ?_
          try simp only [Act.put, List.setIfInBounds_toArray, List.set_cons_zero, List.set_cons_succ]
          refine wpAnyH_take (i := 13) (oi := { dst := some 66, op := Op.load 43 (Operand.tmp 65), type := 43, pos := "ref.go:52", after := #[{ on := 12, ground := Ground.data }, { on := 11, ground := Ground.guard }], guard := some (11, true) }) (v := undef) rfl (by kernel_rfl) (by kernel_rfl) (by kernel_rfl) (fun _ _ _ h => h) (Or.inr ⟨by rfl, rfl⟩) hn ?_
          try simp only [Act.put, List.setIfInBounds_toArray, List.set_cons_zero, List.set_cons_succ]
          refine wpAnyH_take (i := 14) (oi := { dst := some 67, op := Op.move (Operand.tmp 3), type := 3, pos := "ref.go:52", after := #[{ on := 11, ground := Ground.guard }], guard := some (11, true) }) (v := undef) rfl (by kernel_rfl) (by kernel_rfl) (by kernel_rfl) (fun _ _ _ h => h) (Or.inr ⟨by rfl, rfl⟩) hn ?_
          try simp only [Act.put, List.setIfInBounds_toArray, List.set_cons_zero, List.set_cons_succ]
          refine wpAnyH_take (i := 15) (oi := { dst := some 68, op := Op.indexAddr 43 (Operand.tmp 66) (Operand.tmp 67), type := 0, pos := "ref.go:52", after := #[{ on := 13, ground := Ground.data }, { on := 14, ground := Ground.data }, { on := 11, ground := Ground.guard }], guard := some (11, true) }) (v := undef) rfl (by kernel_rfl) (by kernel_rfl) (by kernel_rfl) (fun _ _ _ h => h) (Or.inr ⟨by rfl, rfl⟩) hn ?_
          try simp only [Act.put, List.setIfInBounds_toArray, List.set_cons_zero, List.set_cons_succ]
          refine wpAnyH_take (i := 16) (oi := { dst := some 69, op := Op.fieldAddr 88 (Operand.tmp 68) 0, type := 0, pos := "ref.go:52", after := #[{ on := 15, ground := Ground.data }, { on := 11, ground := Ground.guard }], guard := some (11, true) }) (v := undef) rfl (by kernel_rfl) (by kernel_rfl) (by kernel_rfl) (fun _ _ _ h => h) (Or.inr ⟨by rfl, rfl⟩) hn ?_
          try simp only [Act.put, List.setIfInBounds_toArray, List.set_cons_zero, List.set_cons_succ]
          refine wpAnyH_take (i := 17) (oi := { dst := some 70, op := Op.load 22 (Operand.tmp 69), type := 22, pos := "ref.go:52", after := #[{ on := 16, ground := Ground.data }, { on := 11, ground := Ground.guard }], guard := some (11, true) }) (v := undef) rfl (by kernel_rfl) (by kernel_rfl) (by kernel_rfl) (fun _ _ _ h => h) (Or.inr ⟨by rfl, rfl⟩) hn ?_
          try simp only [Act.put, List.setIfInBounds_toArray, List.set_cons_zero, List.set_cons_succ]
          refine wpAnyH_take (i := 18) (oi := { dst := some 71, op := Op.fieldAddr 45 (Operand.tmp 1) 5, type := 0, pos := "ref.go:52", after := #[{ on := 11, ground := Ground.guard }], guard := some (11, true) }) (v := undef) rfl (by kernel_rfl) (by kernel_rfl) (by kernel_rfl) (fun _ _ _ h => h) (Or.inr ⟨by rfl, rfl⟩) hn ?_
          try simp only [Act.put, List.setIfInBounds_toArray, List.set_cons_zero, List.set_cons_succ]
          refine wpAnyH_take (i := 19) (oi := { dst := some 72, op := Op.load 43 (Operand.tmp 71), type := 43, pos := "ref.go:52", after := #[{ on := 18, ground := Ground.data }, { on := 11, ground := Ground.guard }], guard := some (11, true) }) (v := undef) rfl (by kernel_rfl) (by kernel_rfl) (by kernel_rfl) (fun _ _ _ h => h) (Or.inr ⟨by rfl, rfl⟩) hn ?_
          try simp only [Act.put, List.setIfInBounds_toArray, List.set_cons_zero, List.set_cons_succ]
          refine wpAnyH_take (i := 20) (oi := { dst := some 73, op := Op.move (Operand.tmp 3), type := 3, pos := "ref.go:52", after := #[{ on := 11, ground := Ground.guard }], guard := some (11, true) }) (v := undef) rfl (by kernel_rfl) (by kernel_rfl) (by kernel_rfl) (fun _ _ _ h => h) (Or.inr ⟨by rfl, rfl⟩) hn ?_
          try simp only [Act.put, List.setIfInBounds_toArray, List.set_cons_zero, List.set_cons_succ]
          refine wpAnyH_take (i := 21) (oi := { dst := some 74, op := Op.binOp BinOp.sub 3 (Operand.tmp 73) (Operand.const (Value.int IntKind.i64 1)) 3, type := 3, pos := "ref.go:52", after := #[{ on := 20, ground := Ground.data }, { on := 11, ground := Ground.guard }], guard := some (11, true) }) (v := undef) rfl (by kernel_rfl) (by kernel_rfl) (by kernel_rfl) (fun _ _ _ h => h) (Or.inr ⟨by rfl, rfl⟩) hn ?_
          try simp only [Act.put, List.setIfInBounds_toArray, List.set_cons_zero, List.set_cons_succ]
          refine wpAnyH_take (i := 22) (oi := { dst := some 75, op := Op.indexAddr 43 (Operand.tmp 72) (Operand.tmp 74), type := 0, pos := "ref.go:52", after := #[{ on := 19, ground := Ground.data }, { on := 21, ground := Ground.data }, { on := 11, ground := Ground.guard }], guard := some (11, true) }) (v := undef) rfl (by kernel_rfl) (by kernel_rfl) (by kernel_rfl) (fun _ _ _ h => h) (Or.inr ⟨by rfl, rfl⟩) hn ?_
          try simp only [Act.put, List.setIfInBounds_toArray, List.set_cons_zero, List.set_cons_succ]
          refine wpAnyH_take (i := 23) (oi := { dst := some 76, op := Op.fieldAddr 88 (Operand.tmp 75) 0, type := 0, pos := "ref.go:52", after := #[{ on := 22, ground := Ground.data }, { on := 11, ground := Ground.guard }], guard := some (11, true) }) (v := undef) rfl (by kernel_rfl) (by kernel_rfl) (by kernel_rfl) (fun _ _ _ h => h) (Or.inr ⟨by rfl, rfl⟩) hn ?_
          try simp only [Act.put, List.setIfInBounds_toArray, List.set_cons_zero, List.set_cons_succ]
          refine wpAnyH_take (i := 24) (oi := { dst := some 77, op := Op.load 22 (Operand.tmp 76), type := 22, pos := "ref.go:52", after := #[{ on := 23, ground := Ground.data }, { on := 11, ground := Ground.guard }], guard := some (11, true) }) (v := undef) rfl (by kernel_rfl) (by kernel_rfl) (by kernel_rfl) (fun _ _ _ h => h) (Or.inr ⟨by rfl, rfl⟩) hn ?_
          try simp only [Act.put, List.setIfInBounds_toArray, List.set_cons_zero, List.set_cons_succ]
          refine wpAnyH_take (i := 25) (oi := { dst := some 78, op := Op.binOp BinOp.leq 22 (Operand.tmp 70) (Operand.tmp 77) 22, type := 4, pos := "ref.go:52", after := #[{ on := 17, ground := Ground.data }, { on := 24, ground := Ground.data }, { on := 11, ground := Ground.guard }], guard := some (11, true) }) (v := undef) rfl (by kernel_rfl) (by kernel_rfl) (by kernel_rfl) (fun _ _ _ h => h) (Or.inr ⟨by rfl, rfl⟩) hn ?_
          try simp only [Act.put, List.setIfInBounds_toArray, List.set_cons_zero, List.set_cons_succ]
          refine wpAnyH_take (i := 26) (oi := { dst := some 79, op := Op.pick (Operand.tmp 64) (Operand.tmp 78) (Operand.const (Value.bool false)), type := 4, pos := "ref.go:52", after := #[{ on := 11, ground := Ground.data }, { on := 25, ground := Ground.data }, { on := 8, ground := Ground.guard }], guard := some (8, false) }) (v := ?v57x26) rfl (by kernel_rfl) (by kernel_rfl) (by kernel_rfl) (fun _ _ _ h => h) (Or.inl ⟨by rfl, ?y57x26⟩) hn ?r57x26
          case y57x26 => (intro wS hS; (try go_simp); (try with_reducible rfl))
          try simp only [Act.put, List.setIfInBounds_toArray, List.set_cons_zero, List.set_cons_succ]
          refine wpAnyH_take (i := 27) (oi := { dst := some 80, op := Op.pick (Operand.tmp 61) (Operand.const (Value.bool true)) (Operand.tmp 79), type := 4, pos := "ref.go:52", after := #[{ on := 8, ground := Ground.data }, { on := 26, ground := Ground.data }], guard := none }) (v := ?v57x27) rfl (by kernel_rfl) (by kernel_rfl) (by kernel_rfl) (fun _ _ _ h => h) (Or.inl ⟨by rfl, ?y57x27⟩) hn ?r57x27
          case y57x27 => (intro wS hS; (try go_simp); (try with_reducible rfl))
          try simp only [Act.put, List.setIfInBounds_toArray, List.set_cons_zero, List.set_cons_succ]
          refine wpAnyH_done (by kernel_rfl) ?_ _
          refine NoPanic.normal ?_
          have HH := hid hn
          clear hn
          go_wp2_with fail
          go_roundw
          case rel => exact ⟨1, rfl, by omega, HTX2.out, HNE.out, HH.out⟩
          case measure => (simp [intOf]; omega)
        · obtain ⟨p, hp⟩ : ∃ p, p + 1 = i := ⟨i - 1, by omega⟩
          have hpl : p < ls.length := by omega
          obtain ⟨b', o', u', e, hd0, _⟩ := HAT.out p hpl
          cases e
          have HS : Hid ((ls[p]).1 < (ls[i]).1 → ∀ k (h : k + 1 < ls.length), k + 1 < i + 1 → (ls[k]).1 < (ls[k + 1]).1) := by
            show (ls[p]).1 < (ls[i]).1 → ∀ k (h : k + 1 < ls.length), k + 1 < i + 1 → (ls[k]).1 < (ls[k + 1]).1
            subst hp
            intro h0 k h h1
            rcases Nat.lt_or_ge k p with h3 | h3
            · exact HNO.out k h (by omega)
            · obtain rfl : k = p := by omega
              exact h0
          have HR : Hid (NsRight ⟨hm, hf, hl, md, fs, ls⟩ → (ls[p]).1 < (ls[i]).1) := by
            show NsRight ⟨hm, hf, hl, md, fs, ls⟩ → (ls[p]).1 < (ls[i]).1
            subst hp
            intro h
            have := h.2.2.2.1 p (by simpa using hi)
            simpa using this
          have r0 := hid hd0
          have e1 : IntKind.i64.wrap ((i : Int) - 1) = (p : Int) := by rw [IntWalk.i64_in _ (by omega)]; omega
          have e2 : decide ((0 : Int) < (i : Int)) = true := by simpa using h0
          have e3 : decide (0 < i) = true := by simpa using h0
          clear hd0 hp
          generalize (ls[p]).1 = n at *
          generalize ls[i] = x at *
          obtain ⟨m, y⟩ := x
          simp only at q0 q1 HLI HS HR
          by_cases hlt : n < m
          · have hle : decide ((m : Int) ≤ (n : Int)) = false := by simpa using hlt
            have hle2 : decide (m ≤ n) = false := by simpa using hlt
            have hle3 : (m ≤ n) = False := by simpa using hlt
            have HLT := hid hlt
            clear hlt
            go_wp2_with fail
            clear z0 z1 z2 z3 z4 z5
            refine wp_region_noPanic ?_
            refine wp_region_held_drew (S := (New w2)) (by kernel_rfl) (by first | exact hn | exact (Upd.refl _ _).drew | exact Upd.drew (by assumption)) (fun hn => ?_)
            generalize wr.drew = wd at *
            refine wpAnyH_take (i := 0) (oi := { dst := some 53, op := Op.fieldAddr 45 (Operand.tmp 1) 5, type := 0, pos := "ref.go:52", after := #[], guard := none }) (v := ?v58x1) rfl (by kernel_rfl) (by kernel_rfl) (by kernel_rfl) (fun _ _ _ h => h) (Or.inl ⟨by rfl, ?y58x1⟩) hn ?r58x1
            case y58x1 => (intro wS hS; (try go_simp); (try with_reducible rfl))
            try simp only [Act.put, List.setIfInBounds_toArray, List.set_cons_zero, List.set_cons_succ]
            refine wpAnyH_take (i := 1) (oi := { dst := some 54, op := Op.load 43 (Operand.tmp 53), type := 43, pos := "ref.go:52", after := #[{ on := 0, ground := Ground.data }], guard := none }) (v := ?v58x2) rfl (by kernel_rfl) (by kernel_rfl) (by kernel_rfl) (fun _ _ _ h => h) (Or.inl ⟨by rfl, ?y58x2⟩) hn ?r58x2
            case y58x2 => (intro wS hS; have c0 := cellAt (hp1 HB.out hS) 5 (v := .slice (some ⟨b, o, none⟩) ls.length c2) rfl; (try go_simp); (try with_reducible rfl))
            try simp only [Act.put, List.setIfInBounds_toArray, List.set_cons_zero, List.set_cons_succ]
            refine wpAnyH_take (i := 2) (oi := { dst := some 55, op := Op.move (Operand.tmp 3), type := 3, pos := "ref.go:52", after := #[], guard := none }) (v := ?v58x3) rfl (by kernel_rfl) (by kernel_rfl) (by kernel_rfl) (fun _ _ _ h => h) (Or.inl ⟨by rfl, ?y58x3⟩) hn ?r58x3
            case y58x3 => (intro wS hS; (try go_simp); (try with_reducible rfl))
            try simp only [Act.put, List.setIfInBounds_toArray, List.set_cons_zero, List.set_cons_succ]
            refine wpAnyH_take (i := 3) (oi := { dst := some 56, op := Op.indexAddr 43 (Operand.tmp 54) (Operand.tmp 55), type := 0, pos := "ref.go:52", after := #[{ on := 1, ground := Ground.data }, { on := 2, ground := Ground.data }], guard := none }) (v := ?v58x4) rfl (by kernel_rfl) (by kernel_rfl) (by kernel_rfl) (fun _ _ _ h => h) (Or.inl ⟨by rfl, ?y58x4⟩) hn ?r58x4
            case y58x4 => (intro wS hS; (try go_simp); (try with_reducible rfl))
            try simp only [Act.put, List.setIfInBounds_toArray, List.set_cons_zero, List.set_cons_succ]
            refine wpAnyH_take (i := 4) (oi := { dst := some 57, op := Op.fieldAddr 88 (Operand.tmp 56) 1, type := 0, pos := "ref.go:52", after := #[{ on := 3, ground := Ground.data }], guard := none }) (v := ?v58x5) rfl (by kernel_rfl) (by kernel_rfl) (by kernel_rfl) (fun _ _ _ h => h) (Or.inl ⟨by rfl, ?y58x5⟩) hn ?r58x5
            case y58x5 => (intro wS hS; (try go_simp); (try with_reducible rfl))
            try simp only [Act.put, List.setIfInBounds_toArray, List.set_cons_zero, List.set_cons_succ]
            refine wpAnyH_take (i := 5) (oi := { dst := some 58, op := Op.load 42 (Operand.tmp 57), type := 42, pos := "ref.go:52", after := #[{ on := 4, ground := Ground.data }], guard := none }) (v := ?v58x6) rfl (by kernel_rfl) (by kernel_rfl) (by kernel_rfl) (fun _ _ _ h => h) (Or.inl ⟨by rfl, ?y58x6⟩) hn ?r58x6
            case y58x6 => (intro wS hS; have c1 := (New.trans HN.out hS).cell q1.out (fun h => h); (try go_simp); (try with_reducible rfl))
            try simp only [Act.put, List.setIfInBounds_toArray, List.set_cons_zero, List.set_cons_succ]
            refine wpAnyH_ready (rs := [6]) (by kernel_rfl) (by simp) ?_
            refine AllReadyH.cons (o := { dst := some 59, op := Op.call { callee := Callee.value (Operand.func 49), args := #[Operand.tmp 58], argTypes := #[42] }, type := 4, pos := "ref.go:52", after := #[{ on := 5, ground := Ground.data }], guard := none }) rfl (fun K hK => ?_) AllReadyH.nil
            go_simp
            refine (HLI.out _ (New.trans HN.out hn)).mono ?_
            rintro e wq ⟨rfl, hnq⟩
            go_wp2_with fail
            have hn := New.trans hn hnq
            refine hK.out _ _ (by first | exact hn | exact Upd.alloc hn _) (fun hn => ?_)
            clear hK K
            try simp only [Act.put, List.setIfInBounds_toArray, List.set_cons_zero, List.set_cons_succ]
            refine wpAnyH_take (i := 7) (oi := { dst := some 60, op := Op.unOp UnOp.not 4 (Operand.tmp 59), type := 4, pos := "ref.go:52", after := #[{ on := 6, ground := Ground.data }], guard := none }) (v := ?v58x7) rfl (by kernel_rfl) (by kernel_rfl) (by kernel_rfl) (fun _ _ _ h => h) (Or.inl ⟨by rfl, ?y58x7⟩) hn ?r58x7
            case y58x7 => (intro wS hS; (try go_simp); (try with_reducible rfl))
            try simp only [Act.put, List.setIfInBounds_toArray, List.set_cons_zero, List.set_cons_succ]
            refine wpAnyH_take (i := 8) (oi := { dst := some 61, op := Op.move (Operand.tmp 60), type := 4, pos := "ref.go:52", after := #[{ on := 7, ground := Ground.data }, { on := 6, ground := Ground.chain }], guard := none }) (v := ?v58x8) rfl (by kernel_rfl) (by kernel_rfl) (by kernel_rfl) (fun _ _ _ h => h) (Or.inl ⟨by rfl, ?y58x8⟩) hn ?r58x8
            case y58x8 => (intro wS hS; (try go_simp); (try with_reducible rfl))
            try simp only [Act.put, List.setIfInBounds_toArray, List.set_cons_zero, List.set_cons_succ]
            refine wpAnyH_take (i := 9) (oi := { dst := some 62, op := Op.move (Operand.tmp 3), type := 3, pos := "ref.go:52", after := #[{ on := 8, ground := Ground.guard }], guard := some (8, false) }) (v := ?v58x9) rfl (by kernel_rfl) (by kernel_rfl) (by kernel_rfl) (fun _ _ _ h => h) (Or.inl ⟨by rfl, ?y58x9⟩) hn ?r58x9
            case y58x9 => (intro wS hS; (try go_simp); (try with_reducible rfl))
            try simp only [Act.put, List.setIfInBounds_toArray, List.set_cons_zero, List.set_cons_succ]
            refine wpAnyH_take (i := 10) (oi := { dst := some 63, op := Op.binOp BinOp.gtr 3 (Operand.tmp 62) (Operand.const (Value.int IntKind.i64 0)) 3, type := 4, pos := "ref.go:52", after := #[{ on := 9, ground := Ground.data }, { on := 8, ground := Ground.guard }], guard := some (8, false) }) (v := ?v58x10) rfl (by kernel_rfl) (by kernel_rfl) (by kernel_rfl) (fun _ _ _ h => h) (Or.inl ⟨by rfl, ?y58x10⟩) hn ?r58x10
            case y58x10 => (intro wS hS; (try go_simp); (try with_reducible rfl))
            try simp only [Act.put, List.setIfInBounds_toArray, List.set_cons_zero, List.set_cons_succ]
            refine wpAnyH_take (i := 11) (oi := { dst := some 64, op := Op.move (Operand.tmp 63), type := 4, pos := "ref.go:52", after := #[{ on := 10, ground := Ground.data }, { on := 8, ground := Ground.chain }, { on := 8, ground := Ground.guard }], guard := some (8, false) }) (v := ?v58x11) rfl (by kernel_rfl) (by kernel_rfl) (by kernel_rfl) (fun _ _ _ h => h) (Or.inl ⟨by rfl, ?y58x11⟩) hn ?r58x11
            case y58x11 => (intro wS hS; (try go_simp); (try with_reducible rfl))
            try simp only [Act.put, List.setIfInBounds_toArray, List.set_cons_zero, List.set_cons_succ]
            refine wpAnyH_take (i := 12) (oi := { dst := some 65, op := Op.fieldAddr 45 (Operand.tmp 1) 5, type := 0, pos := "ref.go:52", after := #[{ on := 11, ground := Ground.guard }], guard := some (11, true) }) (v := ?v58x12) rfl (by kernel_rfl) (by kernel_rfl) (by kernel_rfl) (fun _ _ _ h => h) (Or.inl ⟨by rfl, ?y58x12⟩) hn ?r58x12
            case y58x12 => (intro wS hS; (try go_simp); (try with_reducible rfl))
            try simp only [Act.put, List.setIfInBounds_toArray, List.set_cons_zero, List.set_cons_succ]
            refine wpAnyH_take (i := 13) (oi := { dst := some 66, op := Op.load 43 (Operand.tmp 65), type := 43, pos := "ref.go:52", after := #[{ on := 12, ground := Ground.data }, { on := 11, ground := Ground.guard }], guard := some (11, true) }) (v := ?v58x13) rfl (by kernel_rfl) (by kernel_rfl) (by kernel_rfl) (fun _ _ _ h => h) (Or.inl ⟨by rfl, ?y58x13⟩) hn ?r58x13
            case y58x13 => (intro wS hS; have c0 := cellAt (hp1 HB.out hS) 5 (v := .slice (some ⟨b, o, none⟩) ls.length c2) rfl; (try go_simp); (try with_reducible rfl))
            try simp only [Act.put, List.setIfInBounds_toArray, List.set_cons_zero, List.set_cons_succ]
            refine wpAnyH_take (i := 14) (oi := { dst := some 67, op := Op.move (Operand.tmp 3), type := 3, pos := "ref.go:52", after := #[{ on := 11, ground := Ground.guard }], guard := some (11, true) }) (v := ?v58x14) rfl (by kernel_rfl) (by kernel_rfl) (by kernel_rfl) (fun _ _ _ h => h) (Or.inl ⟨by rfl, ?y58x14⟩) hn ?r58x14
            case y58x14 => (intro wS hS; (try go_simp); (try with_reducible rfl))
            try simp only [Act.put, List.setIfInBounds_toArray, List.set_cons_zero, List.set_cons_succ]
            refine wpAnyH_take (i := 15) (oi := { dst := some 68, op := Op.indexAddr 43 (Operand.tmp 66) (Operand.tmp 67), type := 0, pos := "ref.go:52", after := #[{ on := 13, ground := Ground.data }, { on := 14, ground := Ground.data }, { on := 11, ground := Ground.guard }], guard := some (11, true) }) (v := ?v58x15) rfl (by kernel_rfl) (by kernel_rfl) (by kernel_rfl) (fun _ _ _ h => h) (Or.inl ⟨by rfl, ?y58x15⟩) hn ?r58x15
            case y58x15 => (intro wS hS; (try go_simp); (try with_reducible rfl))
            try simp only [Act.put, List.setIfInBounds_toArray, List.set_cons_zero, List.set_cons_succ]
            refine wpAnyH_take (i := 16) (oi := { dst := some 69, op := Op.fieldAddr 88 (Operand.tmp 68) 0, type := 0, pos := "ref.go:52", after := #[{ on := 15, ground := Ground.data }, { on := 11, ground := Ground.guard }], guard := some (11, true) }) (v := ?v58x16) rfl (by kernel_rfl) (by kernel_rfl) (by kernel_rfl) (fun _ _ _ h => h) (Or.inl ⟨by rfl, ?y58x16⟩) hn ?r58x16
            case y58x16 => (intro wS hS; (try go_simp); (try with_reducible rfl))
            try simp only [Act.put, List.setIfInBounds_toArray, List.set_cons_zero, List.set_cons_succ]
            refine wpAnyH_take (i := 17) (oi := { dst := some 70, op := Op.load 22 (Operand.tmp 69), type := 22, pos := "ref.go:52", after := #[{ on := 16, ground := Ground.data }, { on := 11, ground := Ground.guard }], guard := some (11, true) }) (v := ?v58x17) rfl (by kernel_rfl) (by kernel_rfl) (by kernel_rfl) (fun _ _ _ h => h) (Or.inl ⟨by rfl, ?y58x17⟩) hn ?r58x17
            case y58x17 => (intro wS hS; have c1 := (New.trans HN.out hS).cell q0.out (fun h => h); (try go_simp); (try with_reducible rfl))
            try simp only [Act.put, List.setIfInBounds_toArray, List.set_cons_zero, List.set_cons_succ]
            refine wpAnyH_take (i := 18) (oi := { dst := some 71, op := Op.fieldAddr 45 (Operand.tmp 1) 5, type := 0, pos := "ref.go:52", after := #[{ on := 11, ground := Ground.guard }], guard := some (11, true) }) (v := ?v58x18) rfl (by kernel_rfl) (by kernel_rfl) (by kernel_rfl) (fun _ _ _ h => h) (Or.inl ⟨by rfl, ?y58x18⟩) hn ?r58x18
            case y58x18 => (intro wS hS; (try go_simp); (try with_reducible rfl))
            try simp only [Act.put, List.setIfInBounds_toArray, List.set_cons_zero, List.set_cons_succ]
            refine wpAnyH_take (i := 19) (oi := { dst := some 72, op := Op.load 43 (Operand.tmp 71), type := 43, pos := "ref.go:52", after := #[{ on := 18, ground := Ground.data }, { on := 11, ground := Ground.guard }], guard := some (11, true) }) (v := ?v58x19) rfl (by kernel_rfl) (by kernel_rfl) (by kernel_rfl) (fun _ _ _ h => h) (Or.inl ⟨by rfl, ?y58x19⟩) hn ?r58x19
            case y58x19 => (intro wS hS; have c0 := cellAt (hp1 HB.out hS) 5 (v := .slice (some ⟨b, o, none⟩) ls.length c2) rfl; (try go_simp); (try with_reducible rfl))
            try simp only [Act.put, List.setIfInBounds_toArray, List.set_cons_zero, List.set_cons_succ]
            refine wpAnyH_take (i := 20) (oi := { dst := some 73, op := Op.move (Operand.tmp 3), type := 3, pos := "ref.go:52", after := #[{ on := 11, ground := Ground.guard }], guard := some (11, true) }) (v := ?v58x20) rfl (by kernel_rfl) (by kernel_rfl) (by kernel_rfl) (fun _ _ _ h => h) (Or.inl ⟨by rfl, ?y58x20⟩) hn ?r58x20
            case y58x20 => (intro wS hS; (try go_simp); (try with_reducible rfl))
            try simp only [Act.put, List.setIfInBounds_toArray, List.set_cons_zero, List.set_cons_succ]
            refine wpAnyH_take (i := 21) (oi := { dst := some 74, op := Op.binOp BinOp.sub 3 (Operand.tmp 73) (Operand.const (Value.int IntKind.i64 1)) 3, type := 3, pos := "ref.go:52", after := #[{ on := 20, ground := Ground.data }, { on := 11, ground := Ground.guard }], guard := some (11, true) }) (v := ?v58x21) rfl (by kernel_rfl) (by kernel_rfl) (by kernel_rfl) (fun _ _ _ h => h) (Or.inl ⟨by rfl, ?y58x21⟩) hn ?r58x21
            case y58x21 => (intro wS hS; (try go_simp); (try with_reducible rfl))
            try simp only [Act.put, List.setIfInBounds_toArray, List.set_cons_zero, List.set_cons_succ]
            refine wpAnyH_take (i := 22) (oi := { dst := some 75, op := Op.indexAddr 43 (Operand.tmp 72) (Operand.tmp 74), type := 0, pos := "ref.go:52", after := #[{ on := 19, ground := Ground.data }, { on := 21, ground := Ground.data }, { on := 11, ground := Ground.guard }], guard := some (11, true) }) (v := ?v58x22) rfl (by kernel_rfl) (by kernel_rfl) (by kernel_rfl) (fun _ _ _ h => h) (Or.inl ⟨by rfl, ?y58x22⟩) hn ?r58x22
            case y58x22 => (intro wS hS; (try go_simp); (try with_reducible rfl))
            try simp only [Act.put, List.setIfInBounds_toArray, List.set_cons_zero, List.set_cons_succ]
            refine wpAnyH_take (i := 23) (oi := { dst := some 76, op := Op.fieldAddr 88 (Operand.tmp 75) 0, type := 0, pos := "ref.go:52", after := #[{ on := 22, ground := Ground.data }, { on := 11, ground := Ground.guard }], guard := some (11, true) }) (v := ?v58x23) rfl (by kernel_rfl) (by kernel_rfl) (by kernel_rfl) (fun _ _ _ h => h) (Or.inl ⟨by rfl, ?y58x23⟩) hn ?r58x23
            case y58x23 => (intro wS hS; (try go_simp); (try with_reducible rfl))
            try simp only [Act.put, List.setIfInBounds_toArray, List.set_cons_zero, List.set_cons_succ]
            refine wpAnyH_take (i := 24) (oi := { dst := some 77, op := Op.load 22 (Operand.tmp 76), type := 22, pos := "ref.go:52", after := #[{ on := 23, ground := Ground.data }, { on := 11, ground := Ground.guard }], guard := some (11, true) }) (v := ?v58x24) rfl (by kernel_rfl) (by kernel_rfl) (by kernel_rfl) (fun _ _ _ h => h) (Or.inl ⟨by rfl, ?y58x24⟩) hn ?r58x24
            case y58x24 => (intro wS hS; have c1 := (New.trans HN.out hS).cell r0.out (fun h => h); (try go_simp); (try with_reducible rfl))
            try simp only [Act.put, List.setIfInBounds_toArray, List.set_cons_zero, List.set_cons_succ]
            refine wpAnyH_take (i := 25) (oi := { dst := some 78, op := Op.binOp BinOp.leq 22 (Operand.tmp 70) (Operand.tmp 77) 22, type := 4, pos := "ref.go:52", after := #[{ on := 17, ground := Ground.data }, { on := 24, ground := Ground.data }, { on := 11, ground := Ground.guard }], guard := some (11, true) }) (v := ?v58x25) rfl (by kernel_rfl) (by kernel_rfl) (by kernel_rfl) (fun _ _ _ h => h) (Or.inl ⟨by rfl, ?y58x25⟩) hn ?r58x25
            case y58x25 => (intro wS hS; (try go_simp); (try with_reducible rfl))
            try simp only [Act.put, List.setIfInBounds_toArray, List.set_cons_zero, List.set_cons_succ]
            refine wpAnyH_take (i := 26) (oi := { dst := some 79, op := Op.pick (Operand.tmp 64) (Operand.tmp 78) (Operand.const (Value.bool false)), type := 4, pos := "ref.go:52", after := #[{ on := 11, ground := Ground.data }, { on := 25, ground := Ground.data }, { on := 8, ground := Ground.guard }], guard := some (8, false) }) (v := ?v58x26) rfl (by kernel_rfl) (by kernel_rfl) (by kernel_rfl) (fun _ _ _ h => h) (Or.inl ⟨by rfl, ?y58x26⟩) hn ?r58x26
            case y58x26 => (intro wS hS; (try go_simp); (try with_reducible rfl))
            try simp only [Act.put, List.setIfInBounds_toArray, List.set_cons_zero, List.set_cons_succ]
            refine wpAnyH_take (i := 27) (oi := { dst := some 80, op := Op.pick (Operand.tmp 61) (Operand.const (Value.bool true)) (Operand.tmp 79), type := 4, pos := "ref.go:52", after := #[{ on := 8, ground := Ground.data }, { on := 26, ground := Ground.data }], guard := none }) (v := ?v58x27) rfl (by kernel_rfl) (by kernel_rfl) (by kernel_rfl) (fun _ _ _ h => h) (Or.inl ⟨by rfl, ?y58x27⟩) hn ?r58x27
            case y58x27 => (intro wS hS; (try go_simp); (try with_reducible rfl))
            try simp only [Act.put, List.setIfInBounds_toArray, List.set_cons_zero, List.set_cons_succ]
            refine wpAnyH_done (by kernel_rfl) ?_ _
            refine NoPanic.normal ?_
            clear e1 e2 e3
            have HH := hid hn
            clear hn
            go_wp2_with fail
            go_roundw
            case rel => exact ⟨i + 1, by go_num, by omega, HTX2.out, HS.out HLT.out, HH.out⟩
            case measure => (simp [intOf]; omega)
          · have hle : decide ((m : Int) ≤ (n : Int)) = true := by simpa using hlt
            have hle2 : decide (m ≤ n) = true := by simpa using hlt
            have hle3 : (m ≤ n) = True := by simpa using hlt
            have HLT := hid hlt
            clear hlt
            go_wp2_with fail
            clear z0 z1 z2 z3 z4 z5
            refine wp_region_noPanic ?_
            refine wp_region_held_drew (S := (New w2)) (by kernel_rfl) (by first | exact hn | exact (Upd.refl _ _).drew | exact Upd.drew (by assumption)) (fun hn => ?_)
            generalize wr.drew = wd at *
            refine wpAnyH_take (i := 0) (oi := { dst := some 53, op := Op.fieldAddr 45 (Operand.tmp 1) 5, type := 0, pos := "ref.go:52", after := #[], guard := none }) (v := ?v59x1) rfl (by kernel_rfl) (by kernel_rfl) (by kernel_rfl) (fun _ _ _ h => h) (Or.inl ⟨by rfl, ?y59x1⟩) hn ?r59x1
            case y59x1 => (intro wS hS; (try go_simp); (try with_reducible rfl))
            try simp only [Act.put, List.setIfInBounds_toArray, List.set_cons_zero, List.set_cons_succ]
            refine wpAnyH_take (i := 1) (oi := { dst := some 54, op := Op.load 43 (Operand.tmp 53), type := 43, pos := "ref.go:52", after := #[{ on := 0, ground := Ground.data }], guard := none }) (v := ?v59x2) rfl (by kernel_rfl) (by kernel_rfl) (by kernel_rfl) (fun _ _ _ h => h) (Or.inl ⟨by rfl, ?y59x2⟩) hn ?r59x2
            case y59x2 => (intro wS hS; have c0 := cellAt (hp1 HB.out hS) 5 (v := .slice (some ⟨b, o, none⟩) ls.length c2) rfl; (try go_simp); (try with_reducible rfl))
            try simp only [Act.put, List.setIfInBounds_toArray, List.set_cons_zero, List.set_cons_succ]
            refine wpAnyH_take (i := 2) (oi := { dst := some 55, op := Op.move (Operand.tmp 3), type := 3, pos := "ref.go:52", after := #[], guard := none }) (v := ?v59x3) rfl (by kernel_rfl) (by kernel_rfl) (by kernel_rfl) (fun _ _ _ h => h) (Or.inl ⟨by rfl, ?y59x3⟩) hn ?r59x3
            case y59x3 => (intro wS hS; (try go_simp); (try with_reducible rfl))
            try simp only [Act.put, List.setIfInBounds_toArray, List.set_cons_zero, List.set_cons_succ]
            refine wpAnyH_take (i := 3) (oi := { dst := some 56, op := Op.indexAddr 43 (Operand.tmp 54) (Operand.tmp 55), type := 0, pos := "ref.go:52", after := #[{ on := 1, ground := Ground.data }, { on := 2, ground := Ground.data }], guard := none }) (v := ?v59x4) rfl (by kernel_rfl) (by kernel_rfl) (by kernel_rfl) (fun _ _ _ h => h) (Or.inl ⟨by rfl, ?y59x4⟩) hn ?r59x4
            case y59x4 => (intro wS hS; (try go_simp); (try with_reducible rfl))
            try simp only [Act.put, List.setIfInBounds_toArray, List.set_cons_zero, List.set_cons_succ]
            refine wpAnyH_take (i := 4) (oi := { dst := some 57, op := Op.fieldAddr 88 (Operand.tmp 56) 1, type := 0, pos := "ref.go:52", after := #[{ on := 3, ground := Ground.data }], guard := none }) (v := ?v59x5) rfl (by kernel_rfl) (by kernel_rfl) (by kernel_rfl) (fun _ _ _ h => h) (Or.inl ⟨by rfl, ?y59x5⟩) hn ?r59x5
            case y59x5 => (intro wS hS; (try go_simp); (try with_reducible rfl))
            try simp only [Act.put, List.setIfInBounds_toArray, List.set_cons_zero, List.set_cons_succ]
            refine wpAnyH_take (i := 5) (oi := { dst := some 58, op := Op.load 42 (Operand.tmp 57), type := 42, pos := "ref.go:52", after := #[{ on := 4, ground := Ground.data }], guard := none }) (v := ?v59x6) rfl (by kernel_rfl) (by kernel_rfl) (by kernel_rfl) (fun _ _ _ h => h) (Or.inl ⟨by rfl, ?y59x6⟩) hn ?r59x6
            case y59x6 => (intro wS hS; have c1 := (New.trans HN.out hS).cell q1.out (fun h => h); (try go_simp); (try with_reducible rfl))
            try simp only [Act.put, List.setIfInBounds_toArray, List.set_cons_zero, List.set_cons_succ]
            refine wpAnyH_ready (rs := [6]) (by kernel_rfl) (by simp) ?_
            refine AllReadyH.cons (o := { dst := some 59, op := Op.call { callee := Callee.value (Operand.func 49), args := #[Operand.tmp 58], argTypes := #[42] }, type := 4, pos := "ref.go:52", after := #[{ on := 5, ground := Ground.data }], guard := none }) rfl (fun K hK => ?_) AllReadyH.nil
            go_simp
            refine (HLI.out _ (New.trans HN.out hn)).mono ?_
            rintro e wq ⟨rfl, hnq⟩
            go_wp2_with fail
            have hn := New.trans hn hnq
            refine hK.out _ _ (by first | exact hn | exact Upd.alloc hn _) (fun hn => ?_)
            clear hK K
            try simp only [Act.put, List.setIfInBounds_toArray, List.set_cons_zero, List.set_cons_succ]
            refine wpAnyH_take (i := 7) (oi := { dst := some 60, op := Op.unOp UnOp.not 4 (Operand.tmp 59), type := 4, pos := "ref.go:52", after := #[{ on := 6, ground := Ground.data }], guard := none }) (v := ?v59x7) rfl (by kernel_rfl) (by kernel_rfl) (by kernel_rfl) (fun _ _ _ h => h) (Or.inl ⟨by rfl, ?y59x7⟩) hn ?r59x7
            case y59x7 => (intro wS hS; (try go_simp); (try with_reducible rfl))
            try simp only [Act.put, List.setIfInBounds_toArray, List.set_cons_zero, List.set_cons_succ]
            refine wpAnyH_take (i := 8) (oi := { dst := some 61, op := Op.move (Operand.tmp 60), type := 4, pos := "ref.go:52", after := #[{ on := 7, ground := Ground.data }, { on := 6, ground := Ground.chain }], guard := none }) (v := ?v59x8) rfl (by kernel_rfl) (by kernel_rfl) (by kernel_rfl) (fun _ _ _ h => h) (Or.inl ⟨by rfl, ?y59x8⟩) hn ?r59x8
            case y59x8 => (intro wS hS; (try go_simp); (try with_reducible rfl))
            try simp only [Act.put, List.setIfInBounds_toArray, List.set_cons_zero, List.set_cons_succ]
            refine wpAnyH_take (i := 9) (oi := { dst := some 62, op := Op.move (Operand.tmp 3), type := 3, pos := "ref.go:52", after := #[{ on := 8, ground := Ground.guard }], guard := some (8, false) }) (v := ?v59x9) rfl (by kernel_rfl) (by kernel_rfl) (by kernel_rfl) (fun _ _ _ h => h) (Or.inl ⟨by rfl, ?y59x9⟩) hn ?r59x9
            case y59x9 => (intro wS hS; (try go_simp); (try with_reducible rfl))
            try simp only [Act.put, List.setIfInBounds_toArray, List.set_cons_zero, List.set_cons_succ]
            refine wpAnyH_take (i := 10) (oi := { dst := some 63, op := Op.binOp BinOp.gtr 3 (Operand.tmp 62) (Operand.const (Value.int IntKind.i64 0)) 3, type := 4, pos := "ref.go:52", after := #[{ on := 9, ground := Ground.data }, { on := 8, ground := Ground.guard }], guard := some (8, false) }) (v := ?v59x10) rfl (by kernel_rfl) (by kernel_rfl) (by kernel_rfl) (fun _ _ _ h => h) (Or.inl ⟨by rfl, ?y59x10⟩) hn ?r59x10
            case y59x10 => (intro wS hS; (try go_simp); (try with_reducible rfl))
            try simp only [Act.put, List.setIfInBounds_toArray, List.set_cons_zero, List.set_cons_succ]
            refine wpAnyH_take (i := 11) (oi := { dst := some 64, op := Op.move (Operand.tmp 63), type := 4, pos := "ref.go:52", after := #[{ on := 10, ground := Ground.data }, { on := 8, ground := Ground.chain }, { on := 8, ground := Ground.guard }], guard := some (8, false) }) (v := ?v59x11) rfl (by kernel_rfl) (by kernel_rfl) (by kernel_rfl) (fun _ _ _ h => h) (Or.inl ⟨by rfl, ?y59x11⟩) hn ?r59x11
            case y59x11 => (intro wS hS; (try go_simp); (try with_reducible rfl))
            try simp only [Act.put, List.setIfInBounds_toArray, List.set_cons_zero, List.set_cons_succ]
            refine wpAnyH_take (i := 12) (oi := { dst := some 65, op := Op.fieldAddr 45 (Operand.tmp 1) 5, type := 0, pos := "ref.go:52", after := #[{ on := 11, ground := Ground.guard }], guard := some (11, true) }) (v := ?v59x12) rfl (by kernel_rfl) (by kernel_rfl) (by kernel_rfl) (fun _ _ _ h => h) (Or.inl ⟨by rfl, ?y59x12⟩) hn ?r59x12
            case y59x12 => (intro wS hS; (try go_simp); (try with_reducible rfl))
            try simp only [Act.put, List.setIfInBounds_toArray, List.set_cons_zero, List.set_cons_succ]
            refine wpAnyH_take (i := 13) (oi := { dst := some 66, op := Op.load 43 (Operand.tmp 65), type := 43, pos := "ref.go:52", after := #[{ on := 12, ground := Ground.data }, { on := 11, ground := Ground.guard }], guard := some (11, true) }) (v := ?v59x13) rfl (by kernel_rfl) (by kernel_rfl) (by kernel_rfl) (fun _ _ _ h => h) (Or.inl ⟨by rfl, ?y59x13⟩) hn ?r59x13
            case y59x13 => (intro wS hS; have c0 := cellAt (hp1 HB.out hS) 5 (v := .slice (some ⟨b, o, none⟩) ls.length c2) rfl; (try go_simp); (try with_reducible rfl))
            try simp only [Act.put, List.setIfInBounds_toArray, List.set_cons_zero, List.set_cons_succ]
            refine wpAnyH_take (i := 14) (oi := { dst := some 67, op := Op.move (Operand.tmp 3), type := 3, pos := "ref.go:52", after := #[{ on := 11, ground := Ground.guard }], guard := some (11, true) }) (v := ?v59x14) rfl (by kernel_rfl) (by kernel_rfl) (by kernel_rfl) (fun _ _ _ h => h) (Or.inl ⟨by rfl, ?y59x14⟩) hn ?r59x14
            case y59x14 => (intro wS hS; (try go_simp); (try with_reducible rfl))
            try simp only [Act.put, List.setIfInBounds_toArray, List.set_cons_zero, List.set_cons_succ]
            refine wpAnyH_take (i := 15) (oi := { dst := some 68, op := Op.indexAddr 43 (Operand.tmp 66) (Operand.tmp 67), type := 0, pos := "ref.go:52", after := #[{ on := 13, ground := Ground.data }, { on := 14, ground := Ground.data }, { on := 11, ground := Ground.guard }], guard := some (11, true) }) (v := ?v59x15) rfl (by kernel_rfl) (by kernel_rfl) (by kernel_rfl) (fun _ _ _ h => h) (Or.inl ⟨by rfl, ?y59x15⟩) hn ?r59x15
            case y59x15 => (intro wS hS; (try go_simp); (try with_reducible rfl))
            try simp only [Act.put, List.setIfInBounds_toArray, List.set_cons_zero, List.set_cons_succ]
            refine wpAnyH_take (i := 16) (oi := { dst := some 69, op := Op.fieldAddr 88 (Operand.tmp 68) 0, type := 0, pos := "ref.go:52", after := #[{ on := 15, ground := Ground.data }, { on := 11, ground := Ground.guard }], guard := some (11, true) }) (v := ?v59x16) rfl (by kernel_rfl) (by kernel_rfl) (by kernel_rfl) (fun _ _ _ h => h) (Or.inl ⟨by rfl, ?y59x16⟩) hn ?r59x16
            case y59x16 => (intro wS hS; (try go_simp); (try with_reducible rfl))
            try simp only [Act.put, List.setIfInBounds_toArray, List.set_cons_zero, List.set_cons_succ]
            refine wpAnyH_take (i := 17) (oi := { dst := some 70, op := Op.load 22 (Operand.tmp 69), type := 22, pos := "ref.go:52", after := #[{ on := 16, ground := Ground.data }, { on := 11, ground := Ground.guard }], guard := some (11, true) }) (v := ?v59x17) rfl (by kernel_rfl) (by kernel_rfl) (by kernel_rfl) (fun _ _ _ h => h) (Or.inl ⟨by rfl, ?y59x17⟩) hn ?r59x17
            case y59x17 => (intro wS hS; have c1 := (New.trans HN.out hS).cell q0.out (fun h => h); (try go_simp); (try with_reducible rfl))
            try simp only [Act.put, List.setIfInBounds_toArray, List.set_cons_zero, List.set_cons_succ]
            refine wpAnyH_take (i := 18) (oi := { dst := some 71, op := Op.fieldAddr 45 (Operand.tmp 1) 5, type := 0, pos := "ref.go:52", after := #[{ on := 11, ground := Ground.guard }], guard := some (11, true) }) (v := ?v59x18) rfl (by kernel_rfl) (by kernel_rfl) (by kernel_rfl) (fun _ _ _ h => h) (Or.inl ⟨by rfl, ?y59x18⟩) hn ?r59x18
            case y59x18 => (intro wS hS; (try go_simp); (try with_reducible rfl))
            try simp only [Act.put, List.setIfInBounds_toArray, List.set_cons_zero, List.set_cons_succ]
            refine wpAnyH_take (i := 19) (oi := { dst := some 72, op := Op.load 43 (Operand.tmp 71), type := 43, pos := "ref.go:52", after := #[{ on := 18, ground := Ground.data }, { on := 11, ground := Ground.guard }], guard := some (11, true) }) (v := ?v59x19) rfl (by kernel_rfl) (by kernel_rfl) (by kernel_rfl) (fun _ _ _ h => h) (Or.inl ⟨by rfl, ?y59x19⟩) hn ?r59x19
            case y59x19 => (intro wS hS; have c0 := cellAt (hp1 HB.out hS) 5 (v := .slice (some ⟨b, o, none⟩) ls.length c2) rfl; (try go_simp); (try with_reducible rfl))
            try simp only [Act.put, List.setIfInBounds_toArray, List.set_cons_zero, List.set_cons_succ]
            refine wpAnyH_take (i := 20) (oi := { dst := some 73, op := Op.move (Operand.tmp 3), type := 3, pos := "ref.go:52", after := #[{ on := 11, ground := Ground.guard }], guard := some (11, true) }) (v := ?v59x20) rfl (by kernel_rfl) (by kernel_rfl) (by kernel_rfl) (fun _ _ _ h => h) (Or.inl ⟨by rfl, ?y59x20⟩) hn ?r59x20
            case y59x20 => (intro wS hS; (try go_simp); (try with_reducible rfl))
            try simp only [Act.put, List.setIfInBounds_toArray, List.set_cons_zero, List.set_cons_succ]
            refine wpAnyH_take (i := 21) (oi := { dst := some 74, op := Op.binOp BinOp.sub 3 (Operand.tmp 73) (Operand.const (Value.int IntKind.i64 1)) 3, type := 3, pos := "ref.go:52", after := #[{ on := 20, ground := Ground.data }, { on := 11, ground := Ground.guard }], guard := some (11, true) }) (v := ?v59x21) rfl (by kernel_rfl) (by kernel_rfl) (by kernel_rfl) (fun _ _ _ h => h) (Or.inl ⟨by rfl, ?y59x21⟩) hn ?r59x21
            case y59x21 => (intro wS hS; (try go_simp); (try with_reducible rfl))
            try simp only [Act.put, List.setIfInBounds_toArray, List.set_cons_zero, List.set_cons_succ]
            refine wpAnyH_take (i := 22) (oi := { dst := some 75, op := Op.indexAddr 43 (Operand.tmp 72) (Operand.tmp 74), type := 0, pos := "ref.go:52", after := #[{ on := 19, ground := Ground.data }, { on := 21, ground := Ground.data }, { on := 11, ground := Ground.guard }], guard := some (11, true) }) (v := ?v59x22) rfl (by kernel_rfl) (by kernel_rfl) (by kernel_rfl) (fun _ _ _ h => h) (Or.inl ⟨by rfl, ?y59x22⟩) hn ?r59x22
            case y59x22 => (intro wS hS; (try go_simp); (try with_reducible rfl))
            try simp only [Act.put, List.setIfInBounds_toArray, List.set_cons_zero, List.set_cons_succ]
            refine wpAnyH_take (i := 23) (oi := { dst := some 76, op := Op.fieldAddr 88 (Operand.tmp 75) 0, type := 0, pos := "ref.go:52", after := #[{ on := 22, ground := Ground.data }, { on := 11, ground := Ground.guard }], guard := some (11, true) }) (v := ?v59x23) rfl (by kernel_rfl) (by kernel_rfl) (by kernel_rfl) (fun _ _ _ h => h) (Or.inl ⟨by rfl, ?y59x23⟩) hn ?r59x23
            case y59x23 => (intro wS hS; (try go_simp); (try with_reducible rfl))
            try simp only [Act.put, List.setIfInBounds_toArray, List.set_cons_zero, List.set_cons_succ]
            refine wpAnyH_take (i := 24) (oi := { dst := some 77, op := Op.load 22 (Operand.tmp 76), type := 22, pos := "ref.go:52", after := #[{ on := 23, ground := Ground.data }, { on := 11, ground := Ground.guard }], guard := some (11, true) }) (v := ?v59x24) rfl (by kernel_rfl) (by kernel_rfl) (by kernel_rfl) (fun _ _ _ h => h) (Or.inl ⟨by rfl, ?y59x24⟩) hn ?r59x24
            case y59x24 => (intro wS hS; have c1 := (New.trans HN.out hS).cell r0.out (fun h => h); (try go_simp); (try with_reducible rfl))
            try simp only [Act.put, List.setIfInBounds_toArray, List.set_cons_zero, List.set_cons_succ]
            refine wpAnyH_take (i := 25) (oi := { dst := some 78, op := Op.binOp BinOp.leq 22 (Operand.tmp 70) (Operand.tmp 77) 22, type := 4, pos := "ref.go:52", after := #[{ on := 17, ground := Ground.data }, { on := 24, ground := Ground.data }, { on := 11, ground := Ground.guard }], guard := some (11, true) }) (v := ?v59x25) rfl (by kernel_rfl) (by kernel_rfl) (by kernel_rfl) (fun _ _ _ h => h) (Or.inl ⟨by rfl, ?y59x25⟩) hn ?r59x25
            case y59x25 => (intro wS hS; (try go_simp); (try with_reducible rfl))
            try simp only [Act.put, List.setIfInBounds_toArray, List.set_cons_zero, List.set_cons_succ]
            refine wpAnyH_take (i := 26) (oi := { dst := some 79, op := Op.pick (Operand.tmp 64) (Operand.tmp 78) (Operand.const (Value.bool false)), type := 4, pos := "ref.go:52", after := #[{ on := 11, ground := Ground.data }, { on := 25, ground := Ground.data }, { on := 8, ground := Ground.guard }], guard := some (8, false) }) (v := ?v59x26) rfl (by kernel_rfl) (by kernel_rfl) (by kernel_rfl) (fun _ _ _ h => h) (Or.inl ⟨by rfl, ?y59x26⟩) hn ?r59x26
            case y59x26 => (intro wS hS; (try go_simp); (try with_reducible rfl))
            try simp only [Act.put, List.setIfInBounds_toArray, List.set_cons_zero, List.set_cons_succ]
            refine wpAnyH_take (i := 27) (oi := { dst := some 80, op := Op.pick (Operand.tmp 61) (Operand.const (Value.bool true)) (Operand.tmp 79), type := 4, pos := "ref.go:52", after := #[{ on := 8, ground := Ground.data }, { on := 26, ground := Ground.data }], guard := none }) (v := ?v59x27) rfl (by kernel_rfl) (by kernel_rfl) (by kernel_rfl) (fun _ _ _ h => h) (Or.inl ⟨by rfl, ?y59x27⟩) hn ?r59x27
            case y59x27 => (intro wS hS; (try go_simp); (try with_reducible rfl))
            try simp only [Act.put, List.setIfInBounds_toArray, List.set_cons_zero, List.set_cons_succ]
            refine wpAnyH_done (by kernel_rfl) ?_ _
            refine NoPanic.normal ?_
            clear e1 e2 e3
            have HH := hid hn
            clear hn
            go_wp2_with fail
            go_ret
            exact ⟨_, rfl, iff_of_false (by decide) (fun h => HLT.out (HR.out h)), New.trans HN.out HH.out⟩
    · obtain rfl : i = ls.length := by omega
      have HW := hid hnw
      have HR : Hid (NsRight ⟨hm, hf, hl, md, fs, ls⟩) := by
        refine ⟨HM.out.1, HM.out.2.1, HM.out.2.2, fun k h => ?_, fun x hx => ?_⟩
        · have h' : k + 1 < ls.length := by simpa using h
          have := hno k h' h'
          simpa using this
        · obtain ⟨j, hj, rfl⟩ := List.mem_iff_getElem.1 hx
          exact htx j hj hj
      clear hnw htx hno
      go_wp2_with fail
      go_ret
      exact ⟨_, rfl, iff_of_true rfl HR.out, New.trans HN.out HW.out⟩
end Go.Proofs.Ytnngibflnnmioaa
