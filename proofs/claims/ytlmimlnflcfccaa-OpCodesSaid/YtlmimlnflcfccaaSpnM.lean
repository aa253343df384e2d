/-
  The walks of spans: Makes.
-/
import Derived.Test.YtlmimlnflcfccaaSpnS
namespace Go.Proofs.Ytlmimlnflcfccaa
open Go.RowKit Go.Proofs.Own Go.Proofs.Span
set_option maxRecDepth 100000
set_option maxHeartbeats 800000

theorem tm_bd {n a : Int} (h : 0 ≤ a) : 0 ≤ tm n a ∧ tm n a ≤ 1099511627776 := by
  unfold tm mul
  split
  · omega
  · have := Int.mul_nonneg (a := n) (b := a) (by omega) h
    split <;> omega

theorem makes_any (ix mx bn bx r n : Int) (w : World) (h1 : 0 ≤ ix) (h2 : ix ≤ 9223372036854775807) (h3 : 0 ≤ mx) (h4 : mx ≤ 9223372036854775807) (h5 : 0 ≤ bn) (h6 : bn ≤ 274877906944) (h7 : 0 ≤ bx) (n0 : 0 ≤ n) (n1 : n ≤ 4294967295) :
    Calls Try.prog 40 #[.agg #[.int .i64 ix, .int .i64 mx], .agg #[.int .i64 bn, .int .i64 bx], .int .i64 r, .int .i64 n] w fun e w' =>
      e = .returned (.bool (makes ix mx bn bx r n)) ∧ New w w' := by
  have HT := hid (fun w => rTimes_any ix mx n w h1 h2 h3 h4 (by omega))
  have tb := tm_bd (n := n) h1
  have tc := tm_bd (n := n) h3
  have HA := hid (fun w => rand_any (tm n ix) (tm n mx) bn bx w tb.1 (by omega) h5 (by omega) tc.1 h7)
  have HM : Hid (makes ix mx bn bx r n = (has (tm n ix + bn) (most (tm n mx) bx) r && (decide (r < 1099511627776) || decide (1099511627776 ≤ most (tm n mx) bx)))) := by
    show _ = _
    unfold makes tm
    by_cases hz : n ≤ 0
    · simp only [if_pos hz]
    · simp only [if_neg hz]
      by_cases he : (1099511627776 : Int) ≤ mx
      · rw [if_pos he, mul_top n mx (by omega) he]
      · rw [if_neg he]
  generalize most (tm n mx) bx = M at *
  generalize tm n ix + bn = B at *
  have HH := hid (fun w => rhas_any B M r w)
  go_enter Try.func40, Try.ntmps40
  go_upto_region 1 with fail
  obtain ⟨w1, hw1⟩ : ∃ w1, (w.alloc (.cells #[.int .i64 ix, .int .i64 mx] 46)).alloc (.cells #[.int .i64 bn, .int .i64 bx] 46) = w1 := ⟨_, rfl⟩
  have h01 : New w w1 := by rw [← hw1]; exact ((Upd.refl _ _).alloc _).alloc _
  have k0 : w1.cell? ⟨w.heap.size, 0, none⟩ = some (.int .i64 ix) := by rw [← hw1]; simp
  have k1 : w1.cell? ⟨w.heap.size, 1, none⟩ = some (.int .i64 mx) := by rw [← hw1]; simp
  have k2 : w1.cell? ⟨w.heap.size + 1, 0, none⟩ = some (.int .i64 bn) := by rw [← hw1]; simp
  have k3 : w1.cell? ⟨w.heap.size + 1, 1, none⟩ = some (.int .i64 bx) := by rw [← hw1]; simp
  rw [hw1]
  have K0 := hid k0
  have K1 := hid k1
  have K2 := hid k2
  have K3 := hid k3
  clear k0 k1 k2 k3 hw1
  have hn : New w1 w1.drew := (Upd.refl _ _).drew
  go_cut [9] (fun p wx => ∃ g, p = .pointer (some ⟨g, 0, none⟩) ∧ New w wx ∧ wx.cell? ⟨g, 0, none⟩ = some (.int .i64 B) ∧ wx.cell? ⟨g, 1, none⟩ = some (.int .i64 M))
  case first =>
    refine wp_region_noPanic ?_
    refine wp_region_held_drew (S := (New w1)) (by kernel_rfl) (by first | exact hn | exact (Upd.refl _ _).drew | exact Upd.drew (by assumption)) (fun hn => ?_)
    refine wpAnyH_take (i := 0) (oi := { dst := some 10, op := Op.load 46 (Operand.tmp 4), type := 46, pos := "ref.go:62", after := #[], guard := none }) (v := ?v30x1) rfl (by kernel_rfl) (by kernel_rfl) (by kernel_rfl) (fun _ _ _ h => h) (Or.inl ⟨by rfl, ?y30x1⟩) hn ?r30x1
    case y30x1 => (intro wS hS; have c0 := hS.cell K0.out (fun h => h); have c1 := hS.cell K1.out (fun h => h); (try go_simp); (try with_reducible rfl))
    try simp only [Act.put, List.setIfInBounds_toArray, List.set_cons_zero, List.set_cons_succ]
    refine wpAnyH_take (i := 1) (oi := { dst := some 11, op := Op.move (Operand.tmp 3), type := 3, pos := "ref.go:62", after := #[], guard := none }) (v := ?v30x2) rfl (by kernel_rfl) (by kernel_rfl) (by kernel_rfl) (fun _ _ _ h => h) (Or.inl ⟨by rfl, ?y30x2⟩) hn ?r30x2
    case y30x2 => (intro wS hS; (try go_simp); (try with_reducible rfl))
    try simp only [Act.put, List.setIfInBounds_toArray, List.set_cons_zero, List.set_cons_succ]
    refine wpAnyH_take (i := 3) (oi := { dst := some 13, op := Op.load 46 (Operand.tmp 5), type := 46, pos := "ref.go:62", after := #[], guard := none }) (v := ?v30x3) rfl (by kernel_rfl) (by kernel_rfl) (by kernel_rfl) (fun _ _ _ h => h) (Or.inl ⟨by rfl, ?y30x3⟩) hn ?r30x3
    case y30x3 => (intro wS hS; have c2 := hS.cell K2.out (fun h => h); have c3 := hS.cell K3.out (fun h => h); (try go_simp); (try with_reducible rfl))
    try simp only [Act.put, List.setIfInBounds_toArray, List.set_cons_zero, List.set_cons_succ]
    refine wpAnyH_ready (rs := [2, 5]) (by kernel_rfl) (by simp) ?_
    refine AllReadyH.cons (o := { dst := some 12, op := Op.call { callee := Callee.value (Operand.func 35), args := #[Operand.tmp 10, Operand.tmp 11], argTypes := #[46, 3] }, type := 46, pos := "ref.go:62", after := #[{ on := 0, ground := Ground.data }, { on := 1, ground := Ground.data }], guard := none }) rfl (fun K hK => ?_) ?_
    · skip
      go_simp
      refine (HT.out _).mono ?_
      rintro e wa ⟨rfl, hna⟩
      go_wp2_with fail
      have hn := New.trans hn hna
      have hq := hn
      refine hK.out _ _ (by first | exact hn | exact Upd.alloc hn _ | (exact Upd.alloc hq _) | (exact Upd.setCell (Upd.setCell hn (.inl (Nat.le_refl _)) _) (.inl (Nat.le_refl _)) _) | (exact Upd.setCell (Upd.setCell hn (.inl hq.size) _) (.inl hq.size) _)) (fun hn => ?_)
      clear hK K
      try simp only [Act.put, List.setIfInBounds_toArray, List.set_cons_zero, List.set_cons_succ]
      refine wpAnyH_ready (rs := [4, 5]) (by kernel_rfl) (by simp) ?_
      refine AllReadyH.cons (o := { dst := some 14, op := Op.call { callee := Callee.value (Operand.func 33), args := #[Operand.tmp 12, Operand.tmp 13], argTypes := #[46, 46] }, type := 46, pos := "ref.go:62", after := #[{ on := 2, ground := Ground.data }, { on := 3, ground := Ground.data }, { on := 2, ground := Ground.chain }], guard := none }) rfl (fun K hK => ?_) ?_
      · skip
        go_simp
        refine (HA.out _).mono ?_
        rintro e wb ⟨rfl, hnb⟩
        go_wp2_with fail
        have hn := New.trans hn hnb
        have hq := hn
        refine hK.out _ _ (by first | exact hn | exact Upd.alloc hn _ | (exact Upd.alloc hq _) | (exact Upd.setCell (Upd.setCell hn (.inl (Nat.le_refl _)) _) (.inl (Nat.le_refl _)) _) | (exact Upd.setCell (Upd.setCell hn (.inl hq.size) _) (.inl hq.size) _)) (fun hn => ?_)
        clear hK K
        try simp only [Act.put, List.setIfInBounds_toArray, List.set_cons_zero, List.set_cons_succ]
        refine wpAnyH_ready (rs := [5]) (by kernel_rfl) (by simp) ?_
        refine AllReadyH.cons (o := { dst := some 9, op := Op.alloc 46, type := 0, pos := "ref.go:62", after := #[], guard := none }) rfl (fun K hK => ?_) AllReadyH.nil
        go_simp
        refine hK.out _ _ (by first | exact hn | exact Upd.alloc hn _ | (exact Upd.alloc hq _) | (exact Upd.setCell (Upd.setCell hn (.inl (Nat.le_refl _)) _) (.inl (Nat.le_refl _)) _) | (exact Upd.setCell (Upd.setCell hn (.inl hq.size) _) (.inl hq.size) _)) (fun hn => ?_)
        clear hK K
        try simp only [Act.put, List.setIfInBounds_toArray, List.set_cons_zero, List.set_cons_succ]
        refine wpAnyH_ready (rs := [6]) (by kernel_rfl) (by simp) ?_
        refine AllReadyH.cons (o := { dst := none, op := Op.store 46 (Operand.tmp 9) (Operand.tmp 14), type := 0, pos := "ref.go:62", after := #[{ on := 5, ground := Ground.data }, { on := 4, ground := Ground.data }, { on := 4, ground := Ground.chain }, { on := 0, ground := Ground.phase }, { on := 1, ground := Ground.phase }, { on := 2, ground := Ground.phase }, { on := 3, ground := Ground.phase }, { on := 4, ground := Ground.phase }, { on := 5, ground := Ground.phase }], guard := none }) rfl (fun K hK => ?_) AllReadyH.nil
        first | (have z0 := hz.c0; have z1 := hz.c1; have f0 := hz.f 0; have f1 := hz.f 1; go_simp) | go_simp
        refine hK.out _ _ (by first | exact hn | exact Upd.alloc hn _ | (exact Upd.alloc hq _) | (exact Upd.setCell (Upd.setCell hn (.inl (Nat.le_refl _)) _) (.inl (Nat.le_refl _)) _) | (exact Upd.setCell (Upd.setCell hn (.inl hq.size) _) (.inl hq.size) _)) (fun hn => ?_)
        clear hK K
        try simp only [Act.put, List.setIfInBounds_toArray, List.set_cons_zero, List.set_cons_succ]
        refine wpAnyH_done (by kernel_rfl) ?_ _
        refine NoPanic.normal ?_
        go_wp2_with fail
        go_meet
        refine ⟨_, rfl, New.trans h01 hn, ?_, ?_⟩
        · first | exact Blk.put0 hz | (simp; done)
        · first | exact Blk.put1 hz | (simp; done)
      refine AllReadyH.cons (o := { dst := some 9, op := Op.alloc 46, type := 0, pos := "ref.go:62", after := #[], guard := none }) rfl (fun K hK => ?_) AllReadyH.nil
      go_simp
      refine hK.out _ _ (by first | exact hn | exact Upd.alloc hn _ | (exact Upd.alloc hq _) | (exact Upd.setCell (Upd.setCell hn (.inl (Nat.le_refl _)) _) (.inl (Nat.le_refl _)) _) | (exact Upd.setCell (Upd.setCell hn (.inl hq.size) _) (.inl hq.size) _)) (fun hn => ?_)
      clear hK K
      try simp only [Act.put, List.setIfInBounds_toArray, List.set_cons_zero, List.set_cons_succ]
      refine wpAnyH_ready (rs := [4]) (by kernel_rfl) (by simp) ?_
      refine AllReadyH.cons (o := { dst := some 14, op := Op.call { callee := Callee.value (Operand.func 33), args := #[Operand.tmp 12, Operand.tmp 13], argTypes := #[46, 46] }, type := 46, pos := "ref.go:62", after := #[{ on := 2, ground := Ground.data }, { on := 3, ground := Ground.data }, { on := 2, ground := Ground.chain }], guard := none }) rfl (fun K hK => ?_) AllReadyH.nil
      go_simp
      refine (HA.out _).mono ?_
      rintro e wb ⟨rfl, hnb⟩
      go_wp2_with fail
      have hn := New.trans hn hnb
      first | have hz := Blk.new hz hnb | have hz := Blk.of hnb
      refine hK.out _ _ (by first | exact hn | exact Upd.alloc hn _ | (exact Upd.alloc hq _) | (exact Upd.setCell (Upd.setCell hn (.inl (Nat.le_refl _)) _) (.inl (Nat.le_refl _)) _) | (exact Upd.setCell (Upd.setCell hn (.inl hq.size) _) (.inl hq.size) _)) (fun hn => ?_)
      clear hK K
      try simp only [Act.put, List.setIfInBounds_toArray, List.set_cons_zero, List.set_cons_succ]
      refine wpAnyH_ready (rs := [6]) (by kernel_rfl) (by simp) ?_
      refine AllReadyH.cons (o := { dst := none, op := Op.store 46 (Operand.tmp 9) (Operand.tmp 14), type := 0, pos := "ref.go:62", after := #[{ on := 5, ground := Ground.data }, { on := 4, ground := Ground.data }, { on := 4, ground := Ground.chain }, { on := 0, ground := Ground.phase }, { on := 1, ground := Ground.phase }, { on := 2, ground := Ground.phase }, { on := 3, ground := Ground.phase }, { on := 4, ground := Ground.phase }, { on := 5, ground := Ground.phase }], guard := none }) rfl (fun K hK => ?_) AllReadyH.nil
      first | (have z0 := hz.c0; have z1 := hz.c1; have f0 := hz.f 0; have f1 := hz.f 1; go_simp) | go_simp
      refine hK.out _ _ (by first | exact hn | exact Upd.alloc hn _ | (exact Upd.alloc hq _) | (exact Upd.setCell (Upd.setCell hn (.inl (Nat.le_refl _)) _) (.inl (Nat.le_refl _)) _) | (exact Upd.setCell (Upd.setCell hn (.inl hq.size) _) (.inl hq.size) _)) (fun hn => ?_)
      clear hK K
      try simp only [Act.put, List.setIfInBounds_toArray, List.set_cons_zero, List.set_cons_succ]
      refine wpAnyH_done (by kernel_rfl) ?_ _
      refine NoPanic.normal ?_
      go_wp2_with fail
      go_meet
      refine ⟨_, rfl, New.trans h01 hn, ?_, ?_⟩
      · first | exact Blk.put0 hz | (simp; done)
      · first | exact Blk.put1 hz | (simp; done)
    refine AllReadyH.cons (o := { dst := some 9, op := Op.alloc 46, type := 0, pos := "ref.go:62", after := #[], guard := none }) rfl (fun K hK => ?_) AllReadyH.nil
    go_simp
    refine hK.out _ _ (by first | exact hn | exact Upd.alloc hn _ | (exact Upd.alloc hq _) | (exact Upd.setCell (Upd.setCell hn (.inl (Nat.le_refl _)) _) (.inl (Nat.le_refl _)) _) | (exact Upd.setCell (Upd.setCell hn (.inl hq.size) _) (.inl hq.size) _)) (fun hn => ?_)
    clear hK K
    try simp only [Act.put, List.setIfInBounds_toArray, List.set_cons_zero, List.set_cons_succ]
    refine wpAnyH_ready (rs := [2]) (by kernel_rfl) (by simp) ?_
    refine AllReadyH.cons (o := { dst := some 12, op := Op.call { callee := Callee.value (Operand.func 35), args := #[Operand.tmp 10, Operand.tmp 11], argTypes := #[46, 3] }, type := 46, pos := "ref.go:62", after := #[{ on := 0, ground := Ground.data }, { on := 1, ground := Ground.data }], guard := none }) rfl (fun K hK => ?_) AllReadyH.nil
    go_simp
    refine (HT.out _).mono ?_
    rintro e wa ⟨rfl, hna⟩
    go_wp2_with fail
    have hz := Blk.ofDrew hna
    have hn := New.trans hn hna
    refine hK.out _ _ (by first | exact hn | exact Upd.alloc hn _ | (exact Upd.alloc hq _) | (exact Upd.setCell (Upd.setCell hn (.inl (Nat.le_refl _)) _) (.inl (Nat.le_refl _)) _) | (exact Upd.setCell (Upd.setCell hn (.inl hq.size) _) (.inl hq.size) _)) (fun hn => ?_)
    clear hK K
    try simp only [Act.put, List.setIfInBounds_toArray, List.set_cons_zero, List.set_cons_succ]
    refine wpAnyH_ready (rs := [4]) (by kernel_rfl) (by simp) ?_
    refine AllReadyH.cons (o := { dst := some 14, op := Op.call { callee := Callee.value (Operand.func 33), args := #[Operand.tmp 12, Operand.tmp 13], argTypes := #[46, 46] }, type := 46, pos := "ref.go:62", after := #[{ on := 2, ground := Ground.data }, { on := 3, ground := Ground.data }, { on := 2, ground := Ground.chain }], guard := none }) rfl (fun K hK => ?_) AllReadyH.nil
    go_simp
    refine (HA.out _).mono ?_
    rintro e wb ⟨rfl, hnb⟩
    go_wp2_with fail
    have hn := New.trans hn hnb
    first | have hz := Blk.new hz hnb | have hz := Blk.of hnb
    refine hK.out _ _ (by first | exact hn | exact Upd.alloc hn _ | (exact Upd.alloc hq _) | (exact Upd.setCell (Upd.setCell hn (.inl (Nat.le_refl _)) _) (.inl (Nat.le_refl _)) _) | (exact Upd.setCell (Upd.setCell hn (.inl hq.size) _) (.inl hq.size) _)) (fun hn => ?_)
    clear hK K
    try simp only [Act.put, List.setIfInBounds_toArray, List.set_cons_zero, List.set_cons_succ]
    refine wpAnyH_ready (rs := [6]) (by kernel_rfl) (by simp) ?_
    refine AllReadyH.cons (o := { dst := none, op := Op.store 46 (Operand.tmp 9) (Operand.tmp 14), type := 0, pos := "ref.go:62", after := #[{ on := 5, ground := Ground.data }, { on := 4, ground := Ground.data }, { on := 4, ground := Ground.chain }, { on := 0, ground := Ground.phase }, { on := 1, ground := Ground.phase }, { on := 2, ground := Ground.phase }, { on := 3, ground := Ground.phase }, { on := 4, ground := Ground.phase }, { on := 5, ground := Ground.phase }], guard := none }) rfl (fun K hK => ?_) AllReadyH.nil
    first | (have z0 := hz.c0; have z1 := hz.c1; have f0 := hz.f 0; have f1 := hz.f 1; go_simp) | go_simp
    refine hK.out _ _ (by first | exact hn | exact Upd.alloc hn _ | (exact Upd.alloc hq _) | (exact Upd.setCell (Upd.setCell hn (.inl (Nat.le_refl _)) _) (.inl (Nat.le_refl _)) _) | (exact Upd.setCell (Upd.setCell hn (.inl hq.size) _) (.inl hq.size) _)) (fun hn => ?_)
    clear hK K
    try simp only [Act.put, List.setIfInBounds_toArray, List.set_cons_zero, List.set_cons_succ]
    refine wpAnyH_done (by kernel_rfl) ?_ _
    refine NoPanic.normal ?_
    go_wp2_with fail
    go_meet
    refine ⟨_, rfl, New.trans h01 hn, ?_, ?_⟩
    · first | exact Blk.put0 hz | (simp; done)
    · first | exact Blk.put1 hz | (simp; done)
  case rest =>
    obtain ⟨g, rfl, hw, hg0, hg1⟩ := hcut
    have hg2 : (wc.alloc (.cells #[.int .i64 B, .int .i64 M] 46)).cell? ⟨g, 1, none⟩ = some (.int .i64 M) := ((Upd.refl (fun _ => False) wc).alloc _).cell hg1 (fun h => h)
    obtain ⟨c, hh⟩ : ∃ c, has B M r = c := ⟨_, rfl⟩
    rw [hh] at HH HM
    clear hh hn
    cases c with
    | false =>
      have HV : Hid (makes ix mx bn bx r n = false) := by show _ = _; rw [HM.out]; rfl
      go_wp2_with (go_at_call 31; refine (HH.out _).mono ?_; rintro e w' ⟨rfl, rfl⟩)
      go_ret
      exact ⟨by rw [HV.out]; rfl, hw.alloc _⟩
    | true =>
      by_cases q1 : r < 1099511627776
      · have HV : Hid (makes ix mx bn bx r n = true) := by show _ = _; rw [HM.out, decide_eq_true q1]; rfl
        go_wp2_with (go_at_call 31; refine (HH.out _).mono ?_; rintro e w' ⟨rfl, rfl⟩)
        go_ret
        exact ⟨by rw [HV.out]; rfl, hw.alloc _⟩
      · have HV : Hid (makes ix mx bn bx r n = decide (1099511627776 ≤ M)) := by show _ = _; rw [HM.out, decide_eq_false q1]; simp
        go_wp2_with (go_at_call 31; refine (HH.out _).mono ?_; rintro e w' ⟨rfl, rfl⟩)
        go_ret
        refine ⟨?_, hw.alloc _⟩
        rw [HV.out]
        first | rfl | (show Ending.returned (Value.bool (decide (r < 1099511627776) || decide (1099511627776 ≤ M))) = _; rw [decide_eq_false (by omega : ¬ r < 1099511627776)]; rfl)
end Go.Proofs.Ytlmimlnflcfccaa
