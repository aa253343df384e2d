/-
  The laws of spans: SpanCounts.
-/
import Derived.Test.YtlmimlnflcfccaaSpnN
import Derived.Test.YtlmimlnflcfccaaFrm
namespace Go.Proofs.Ytlmimlnflcfccaa
open Go.RowKit Go.Proofs.Own Go.Proofs.Span
set_option maxRecDepth 100000
set_option maxHeartbeats 800000

theorem inB (r : Int) (h1 : ¬ r < 0) (h2 : ¬ (1099511627776 : Int) < r) : (decide (r < 0) || decide (1099511627776 < r)) = false := by
  rw [decide_eq_false h1, decide_eq_false h2]; rfl

theorem toldB (p q : Int) (h1 : q ≤ 4294967295) (h2 : p ≤ 4294967295) : (decide (4294967295 < q) || decide (4294967296 < p)) = false := by
  rw [decide_eq_false (by omega), decide_eq_false (by omega)]; rfl

theorem spanCounts_walk (ix mx bn bx r : Int) (w : World) (i9 : mx ≤ 9223372036854775807) :
    Calls Try.prog 8 #[.agg #[.int .i64 ix, .int .i64 mx], .agg #[.int .i64 bn, .int .i64 bx], .int .i64 r] w (True' w) := by
  have HI := hid (ritem_any ix mx)
  have HR := hid (right_any bn bx)
  obtain ⟨ci, hci⟩ : ∃ c, itemB ix mx = c := ⟨_, rfl⟩
  obtain ⟨cr, hcr⟩ : ∃ c, rightB bn bx = c := ⟨_, rfl⟩
  rw [hci] at HI
  rw [hcr] at HR
  obtain ⟨w1, hw1⟩ : ∃ w1, (w.alloc (.cells #[.int .i64 ix, .int .i64 mx] 46)).alloc (.cells #[.int .i64 bn, .int .i64 bx] 46) = w1 := ⟨_, rfl⟩
  have h01 : Hid (New w w1) := by show New _ _; rw [← hw1]; exact ((Upd.refl _ _).alloc _).alloc _
  have K0 : Hid (w1.cell? ⟨w.heap.size, 0, none⟩ = some (.int .i64 ix)) := by show _ = _; rw [← hw1]; simp
  have K1 : Hid (w1.cell? ⟨w.heap.size, 1, none⟩ = some (.int .i64 mx)) := by show _ = _; rw [← hw1]; simp
  have K2 : Hid (w1.cell? ⟨w.heap.size + 1, 0, none⟩ = some (.int .i64 bn)) := by show _ = _; rw [← hw1]; simp
  have K3 : Hid (w1.cell? ⟨w.heap.size + 1, 1, none⟩ = some (.int .i64 bx)) := by show _ = _; rw [← hw1]; simp
  have HCI := hid hci
  have HCR := hid hcr
  have HW1 := hid hw1
  clear hci hcr hw1
  cases ci with
  | false =>
    go_enter Try.func8, Try.ntmps8
    go_wp2_with (go_at_call 37; refine (HI.out _).mono ?_; rintro e wa ⟨rfl, hna⟩)
    go_ret
    exact ⟨rfl, New.trans (((Upd.refl _ _).alloc _).alloc _) hna⟩
  | true =>
    go_enter Try.func8, Try.ntmps8
    go_upto_region 1 with fail
    rw [HW1.out]
    go_cut [26] (fun c wx => New w1 wx ∧ ((c = .bool true) ∨ (c = .bool false ∧ cr = true ∧ 0 ≤ r ∧ r ≤ 1099511627776)))
    case first =>
      have k0 := K0.out
      have k1 := K1.out
      go_wp2_with fail
      refine (HI.out _).mono ?_
      rintro e wa ⟨rfl, hna⟩
      have k2 := hna.cell K2.out (fun h => h)
      have k3 := hna.cell K3.out (fun h => h)
      have HN := hid hna
      clear k0 k1 hna
      cases cr with
      | false =>
        go_wp2_with (go_at_call 28; refine (HR.out _).mono ?_; rintro e wb ⟨rfl, rfl⟩)
        go_meet
        exact ⟨HN.out.alloc _, .inl rfl⟩
      | true =>
        by_cases q1 : r < 0
        · go_wp2_with (go_at_call 28; refine (HR.out _).mono ?_; rintro e wb ⟨rfl, rfl⟩)
          go_meet
          exact ⟨HN.out.alloc _, .inl rfl⟩
        · by_cases q2 : (1099511627776 : Int) < r
          · go_wp2_with (go_at_call 28; refine (HR.out _).mono ?_; rintro e wb ⟨rfl, rfl⟩)
            go_meet
            exact ⟨HN.out.alloc _, .inl rfl⟩
          · have Q1 := hid q1
            have Q2 := hid q2
            have QB := hid (inB r q1 q2)
            clear q1 q2
            go_wp2_with (go_at_call 28; refine (HR.out _).mono ?_; rintro e wb ⟨rfl, rfl⟩)
            go_meet
            exact ⟨HN.out.alloc _, .inr ⟨congrArg Value.bool QB.out, trivial, (by first | exact Q1.out | exact Int.not_lt.mp Q1.out), (by first | exact Q2.out | exact Int.not_lt.mp Q2.out)⟩⟩
    case rest =>
      obtain ⟨hwc, rfl | ⟨rfl, rfl, r3, r4⟩⟩ := hcut
      · go_wp2_with fail
        go_ret
        exact ⟨rfl, New.trans h01.out hwc⟩
      · have HOA := hid (own_any ix mx)
        have HOB := hid (own_any bn bx)
        have hit := (itemB_iff _ _).mp HCI.out
        have hrt := (rightB_iff _ _).mp HCR.out
        have HC := hid (fun w => Counts_any ix mx bn bx r w hit hrt r3 r4)
        have k0 := hid (hwc.cell K0.out (fun h => h))
        have k1 := hid (hwc.cell K1.out (fun h => h))
        have k2 := hid (hwc.cell K2.out (fun h => h))
        have k3 := hid (hwc.cell K3.out (fun h => h))
        have HIT := hid hit
        have HRT := hid hrt
        have HM : Hid (∀ n : Int, 0 ≤ n → n ≤ 4294967295 → (makes ix mx bn bx r n = true ↔ (counts ix mx bn bx r).1 ≤ n ∧ n ≤ (counts ix mx bn bx r).2)) := fun n n0 n1 => counts_makes hit hrt r3 r4 n0 n1
        clear hit hrt
        have CA := counts_all ix mx bn bx r
        generalize counts ix mx bn bx r = c at *
        have CB := hid CA
        clear CA
        have HWC := hid hwc
        clear hwc
        go_upto_region 3 with fail
        have hn : New wc wc.drew := (Upd.refl _ _).drew
        go_cut [7] (fun p wx => ∃ g, p = .pointer (some ⟨g, 0, none⟩) ∧ New wc wx ∧ Blk wx g (.int .u64 c.1) (.int .u64 c.2) 58)
        case first =>
          refine wp_region_noPanic ?_
          refine wp_region_held_drew (S := (New wc)) (by kernel_rfl) (by first | exact hn | exact (Upd.refl _ _).drew | exact Upd.drew (by assumption)) (fun hn => ?_)
          refine wpAnyH_take (i := 0) (oi := { dst := some 27, op := Op.load 46 (Operand.tmp 3), type := 46, pos := "law.go:40", after := #[], guard := none }) (v := ?v6x1) rfl (by kernel_rfl) (by kernel_rfl) (by kernel_rfl) (fun _ _ _ h => h) (Or.inl ⟨by rfl, ?y6x1⟩) hn ?r6x1
          case y6x1 => (intro wS hS; have c0 := hS.cell k0.out (fun h => h); have c1 := hS.cell k1.out (fun h => h); (try go_simp); (try with_reducible rfl))
          try simp only [Act.put, List.setIfInBounds_toArray, List.set_cons_zero, List.set_cons_succ]
          refine wpAnyH_take (i := 2) (oi := { dst := some 29, op := Op.load 46 (Operand.tmp 4), type := 46, pos := "law.go:40", after := #[], guard := none }) (v := ?v6x2) rfl (by kernel_rfl) (by kernel_rfl) (by kernel_rfl) (fun _ _ _ h => h) (Or.inl ⟨by rfl, ?y6x2⟩) hn ?r6x2
          case y6x2 => (intro wS hS; have c2 := hS.cell k2.out (fun h => h); have c3 := hS.cell k3.out (fun h => h); (try go_simp); (try with_reducible rfl))
          try simp only [Act.put, List.setIfInBounds_toArray, List.set_cons_zero, List.set_cons_succ]
          refine wpAnyH_take (i := 4) (oi := { dst := some 31, op := Op.move (Operand.tmp 2), type := 3, pos := "law.go:40", after := #[], guard := none }) (v := ?v6x3) rfl (by kernel_rfl) (by kernel_rfl) (by kernel_rfl) (fun _ _ _ h => h) (Or.inl ⟨by rfl, ?y6x3⟩) hn ?r6x3
          case y6x3 => (intro wS hS; (try go_simp); (try with_reducible rfl))
          try simp only [Act.put, List.setIfInBounds_toArray, List.set_cons_zero, List.set_cons_succ]
          refine wpAnyH_ready (rs := [1, 6]) (by kernel_rfl) (by simp) ?_
          refine AllReadyH.cons (o := { dst := some 28, op := Op.call { callee := Callee.value (Operand.func 29), args := #[Operand.tmp 27], argTypes := #[46] }, type := 48, pos := "law.go:40", after := #[{ on := 0, ground := Ground.data }], guard := none }) rfl (fun K hK => ?_) ?_
          · skip
            go_simp
            refine (HOA.out _).mono ?_
            rintro e wa ⟨rfl, hna⟩
            go_wp2_with fail
            have hn := New.trans hn hna
            have hq := hn
            refine hK.out _ _ (by first | exact hn | exact Upd.alloc hn _ | (exact Upd.alloc hq _) | (exact Upd.setCell (Upd.setCell hn (.inl (Nat.le_refl _)) _) (.inl (Nat.le_refl _)) _) | (exact Upd.setCell (Upd.setCell hn (.inl hq.size) _) (.inl hq.size) _)) (fun hn => ?_)
            clear hK K
            try simp only [Act.put, List.setIfInBounds_toArray, List.set_cons_zero, List.set_cons_succ]
            refine wpAnyH_ready (rs := [3, 6]) (by kernel_rfl) (by simp) ?_
            refine AllReadyH.cons (o := { dst := some 30, op := Op.call { callee := Callee.value (Operand.func 29), args := #[Operand.tmp 29], argTypes := #[46] }, type := 48, pos := "law.go:40", after := #[{ on := 2, ground := Ground.data }, { on := 1, ground := Ground.chain }], guard := none }) rfl (fun K hK => ?_) ?_
            · skip
              go_simp
              refine (HOB.out _).mono ?_
              rintro e wa ⟨rfl, hna⟩
              go_wp2_with fail
              have hn := New.trans hn hna
              have hq := hn
              refine hK.out _ _ (by first | exact hn | exact Upd.alloc hn _ | (exact Upd.alloc hq _) | (exact Upd.setCell (Upd.setCell hn (.inl (Nat.le_refl _)) _) (.inl (Nat.le_refl _)) _) | (exact Upd.setCell (Upd.setCell hn (.inl hq.size) _) (.inl hq.size) _)) (fun hn => ?_)
              clear hK K
              try simp only [Act.put, List.setIfInBounds_toArray, List.set_cons_zero, List.set_cons_succ]
              refine wpAnyH_ready (rs := [5, 6]) (by kernel_rfl) (by simp) ?_
              refine AllReadyH.cons (o := { dst := some 32, op := Op.call { callee := Callee.value (Operand.func 38), args := #[Operand.tmp 28, Operand.tmp 30, Operand.tmp 31], argTypes := #[48, 48, 3] }, type := 58, pos := "law.go:40", after := #[{ on := 1, ground := Ground.data }, { on := 3, ground := Ground.data }, { on := 4, ground := Ground.data }, { on := 3, ground := Ground.chain }], guard := none }) rfl (fun K hK => ?_) ?_
              · skip
                go_simp
                refine (HC.out _).mono ?_
                rintro e wa ⟨rfl, hna⟩
                go_wp2_with fail
                have hn := New.trans hn hna
                have hq := hn
                refine hK.out _ _ (by first | exact hn | exact Upd.alloc hn _ | (exact Upd.alloc hq _) | (exact Upd.setCell (Upd.setCell hn (.inl (Nat.le_refl _)) _) (.inl (Nat.le_refl _)) _) | (exact Upd.setCell (Upd.setCell hn (.inl hq.size) _) (.inl hq.size) _)) (fun hn => ?_)
                clear hK K
                try simp only [Act.put, List.setIfInBounds_toArray, List.set_cons_zero, List.set_cons_succ]
                refine wpAnyH_ready (rs := [6]) (by kernel_rfl) (by simp) ?_
                refine AllReadyH.cons (o := { dst := some 7, op := Op.alloc 58, type := 0, pos := "law.go:40", after := #[], guard := none }) rfl (fun K hK => ?_) AllReadyH.nil
                go_simp
                refine hK.out _ _ (by first | exact hn | exact Upd.alloc hn _ | (exact Upd.alloc hq _) | (exact Upd.setCell (Upd.setCell hn (.inl (Nat.le_refl _)) _) (.inl (Nat.le_refl _)) _) | (exact Upd.setCell (Upd.setCell hn (.inl hq.size) _) (.inl hq.size) _)) (fun hn => ?_)
                clear hK K
                try simp only [Act.put, List.setIfInBounds_toArray, List.set_cons_zero, List.set_cons_succ]
                refine wpAnyH_ready (rs := [7]) (by kernel_rfl) (by simp) ?_
                refine AllReadyH.cons (o := { dst := none, op := Op.store 58 (Operand.tmp 7) (Operand.tmp 32), type := 0, pos := "law.go:40", after := #[{ on := 6, ground := Ground.data }, { on := 5, ground := Ground.data }, { on := 5, ground := Ground.chain }, { on := 0, ground := Ground.phase }, { on := 1, ground := Ground.phase }, { on := 2, ground := Ground.phase }, { on := 3, ground := Ground.phase }, { on := 4, ground := Ground.phase }, { on := 5, ground := Ground.phase }, { on := 6, ground := Ground.phase }], guard := none }) rfl (fun K hK => ?_) AllReadyH.nil
                first | (have z0 := hz.c0; have z1 := hz.c1; have f0 := hz.f 0; have f1 := hz.f 1; go_simp) | go_simp
                refine hK.out _ _ (by first | exact hn | exact Upd.alloc hn _ | (exact Upd.alloc hq _) | (exact Upd.setCell (Upd.setCell hn (.inl (Nat.le_refl _)) _) (.inl (Nat.le_refl _)) _) | (exact Upd.setCell (Upd.setCell hn (.inl hq.size) _) (.inl hq.size) _)) (fun hn => ?_)
                clear hK K
                try simp only [Act.put, List.setIfInBounds_toArray, List.set_cons_zero, List.set_cons_succ]
                refine wpAnyH_done (by kernel_rfl) ?_ _
                refine NoPanic.normal ?_
                go_wp2_with fail
                go_meet
                refine ⟨_, rfl, hn, ?_⟩
                first | exact Blk.put hz | exact Blk.mk
              refine AllReadyH.cons (o := { dst := some 7, op := Op.alloc 58, type := 0, pos := "law.go:40", after := #[], guard := none }) rfl (fun K hK => ?_) AllReadyH.nil
              go_simp
              refine hK.out _ _ (by first | exact hn | exact Upd.alloc hn _ | (exact Upd.alloc hq _) | (exact Upd.setCell (Upd.setCell hn (.inl (Nat.le_refl _)) _) (.inl (Nat.le_refl _)) _) | (exact Upd.setCell (Upd.setCell hn (.inl hq.size) _) (.inl hq.size) _)) (fun hn => ?_)
              clear hK K
              try simp only [Act.put, List.setIfInBounds_toArray, List.set_cons_zero, List.set_cons_succ]
              refine wpAnyH_ready (rs := [5]) (by kernel_rfl) (by simp) ?_
              refine AllReadyH.cons (o := { dst := some 32, op := Op.call { callee := Callee.value (Operand.func 38), args := #[Operand.tmp 28, Operand.tmp 30, Operand.tmp 31], argTypes := #[48, 48, 3] }, type := 58, pos := "law.go:40", after := #[{ on := 1, ground := Ground.data }, { on := 3, ground := Ground.data }, { on := 4, ground := Ground.data }, { on := 3, ground := Ground.chain }], guard := none }) rfl (fun K hK => ?_) AllReadyH.nil
              go_simp
              refine (HC.out _).mono ?_
              rintro e wa ⟨rfl, hna⟩
              go_wp2_with fail
              have hn := New.trans hn hna
              first | have hz := Blk.new hz hna | have hz := Blk.ofDrew hna | have hz := Blk.of hna
              refine hK.out _ _ (by first | exact hn | exact Upd.alloc hn _ | (exact Upd.alloc hq _) | (exact Upd.setCell (Upd.setCell hn (.inl (Nat.le_refl _)) _) (.inl (Nat.le_refl _)) _) | (exact Upd.setCell (Upd.setCell hn (.inl hq.size) _) (.inl hq.size) _)) (fun hn => ?_)
              clear hK K
              try simp only [Act.put, List.setIfInBounds_toArray, List.set_cons_zero, List.set_cons_succ]
              refine wpAnyH_ready (rs := [7]) (by kernel_rfl) (by simp) ?_
              refine AllReadyH.cons (o := { dst := none, op := Op.store 58 (Operand.tmp 7) (Operand.tmp 32), type := 0, pos := "law.go:40", after := #[{ on := 6, ground := Ground.data }, { on := 5, ground := Ground.data }, { on := 5, ground := Ground.chain }, { on := 0, ground := Ground.phase }, { on := 1, ground := Ground.phase }, { on := 2, ground := Ground.phase }, { on := 3, ground := Ground.phase }, { on := 4, ground := Ground.phase }, { on := 5, ground := Ground.phase }, { on := 6, ground := Ground.phase }], guard := none }) rfl (fun K hK => ?_) AllReadyH.nil
              first | (have z0 := hz.c0; have z1 := hz.c1; have f0 := hz.f 0; have f1 := hz.f 1; go_simp) | go_simp
              refine hK.out _ _ (by first | exact hn | exact Upd.alloc hn _ | (exact Upd.alloc hq _) | (exact Upd.setCell (Upd.setCell hn (.inl (Nat.le_refl _)) _) (.inl (Nat.le_refl _)) _) | (exact Upd.setCell (Upd.setCell hn (.inl hq.size) _) (.inl hq.size) _)) (fun hn => ?_)
              clear hK K
              try simp only [Act.put, List.setIfInBounds_toArray, List.set_cons_zero, List.set_cons_succ]
              refine wpAnyH_done (by kernel_rfl) ?_ _
              refine NoPanic.normal ?_
              go_wp2_with fail
              go_meet
              refine ⟨_, rfl, hn, ?_⟩
              first | exact Blk.put hz | exact Blk.mk
            refine AllReadyH.cons (o := { dst := some 7, op := Op.alloc 58, type := 0, pos := "law.go:40", after := #[], guard := none }) rfl (fun K hK => ?_) AllReadyH.nil
            go_simp
            refine hK.out _ _ (by first | exact hn | exact Upd.alloc hn _ | (exact Upd.alloc hq _) | (exact Upd.setCell (Upd.setCell hn (.inl (Nat.le_refl _)) _) (.inl (Nat.le_refl _)) _) | (exact Upd.setCell (Upd.setCell hn (.inl hq.size) _) (.inl hq.size) _)) (fun hn => ?_)
            clear hK K
            try simp only [Act.put, List.setIfInBounds_toArray, List.set_cons_zero, List.set_cons_succ]
            refine wpAnyH_ready (rs := [3]) (by kernel_rfl) (by simp) ?_
            refine AllReadyH.cons (o := { dst := some 30, op := Op.call { callee := Callee.value (Operand.func 29), args := #[Operand.tmp 29], argTypes := #[46] }, type := 48, pos := "law.go:40", after := #[{ on := 2, ground := Ground.data }, { on := 1, ground := Ground.chain }], guard := none }) rfl (fun K hK => ?_) AllReadyH.nil
            go_simp
            refine (HOB.out _).mono ?_
            rintro e wa ⟨rfl, hna⟩
            go_wp2_with fail
            have hn := New.trans hn hna
            first | have hz := Blk.new hz hna | have hz := Blk.ofDrew hna | have hz := Blk.of hna
            refine hK.out _ _ (by first | exact hn | exact Upd.alloc hn _ | (exact Upd.alloc hq _) | (exact Upd.setCell (Upd.setCell hn (.inl (Nat.le_refl _)) _) (.inl (Nat.le_refl _)) _) | (exact Upd.setCell (Upd.setCell hn (.inl hq.size) _) (.inl hq.size) _)) (fun hn => ?_)
            clear hK K
            try simp only [Act.put, List.setIfInBounds_toArray, List.set_cons_zero, List.set_cons_succ]
            refine wpAnyH_ready (rs := [5]) (by kernel_rfl) (by simp) ?_
            refine AllReadyH.cons (o := { dst := some 32, op := Op.call { callee := Callee.value (Operand.func 38), args := #[Operand.tmp 28, Operand.tmp 30, Operand.tmp 31], argTypes := #[48, 48, 3] }, type := 58, pos := "law.go:40", after := #[{ on := 1, ground := Ground.data }, { on := 3, ground := Ground.data }, { on := 4, ground := Ground.data }, { on := 3, ground := Ground.chain }], guard := none }) rfl (fun K hK => ?_) AllReadyH.nil
            go_simp
            refine (HC.out _).mono ?_
            rintro e wa ⟨rfl, hna⟩
            go_wp2_with fail
            have hn := New.trans hn hna
            first | have hz := Blk.new hz hna | have hz := Blk.ofDrew hna | have hz := Blk.of hna
            refine hK.out _ _ (by first | exact hn | exact Upd.alloc hn _ | (exact Upd.alloc hq _) | (exact Upd.setCell (Upd.setCell hn (.inl (Nat.le_refl _)) _) (.inl (Nat.le_refl _)) _) | (exact Upd.setCell (Upd.setCell hn (.inl hq.size) _) (.inl hq.size) _)) (fun hn => ?_)
            clear hK K
            try simp only [Act.put, List.setIfInBounds_toArray, List.set_cons_zero, List.set_cons_succ]
            refine wpAnyH_ready (rs := [7]) (by kernel_rfl) (by simp) ?_
            refine AllReadyH.cons (o := { dst := none, op := Op.store 58 (Operand.tmp 7) (Operand.tmp 32), type := 0, pos := "law.go:40", after := #[{ on := 6, ground := Ground.data }, { on := 5, ground := Ground.data }, { on := 5, ground := Ground.chain }, { on := 0, ground := Ground.phase }, { on := 1, ground := Ground.phase }, { on := 2, ground := Ground.phase }, { on := 3, ground := Ground.phase }, { on := 4, ground := Ground.phase }, { on := 5, ground := Ground.phase }, { on := 6, ground := Ground.phase }], guard := none }) rfl (fun K hK => ?_) AllReadyH.nil
            first | (have z0 := hz.c0; have z1 := hz.c1; have f0 := hz.f 0; have f1 := hz.f 1; go_simp) | go_simp
            refine hK.out _ _ (by first | exact hn | exact Upd.alloc hn _ | (exact Upd.alloc hq _) | (exact Upd.setCell (Upd.setCell hn (.inl (Nat.le_refl _)) _) (.inl (Nat.le_refl _)) _) | (exact Upd.setCell (Upd.setCell hn (.inl hq.size) _) (.inl hq.size) _)) (fun hn => ?_)
            clear hK K
            try simp only [Act.put, List.setIfInBounds_toArray, List.set_cons_zero, List.set_cons_succ]
            refine wpAnyH_done (by kernel_rfl) ?_ _
            refine NoPanic.normal ?_
            go_wp2_with fail
            go_meet
            refine ⟨_, rfl, hn, ?_⟩
            first | exact Blk.put hz | exact Blk.mk
          refine AllReadyH.cons (o := { dst := some 7, op := Op.alloc 58, type := 0, pos := "law.go:40", after := #[], guard := none }) rfl (fun K hK => ?_) AllReadyH.nil
          go_simp
          refine hK.out _ _ (by first | exact hn | exact Upd.alloc hn _ | (exact Upd.alloc hq _) | (exact Upd.setCell (Upd.setCell hn (.inl (Nat.le_refl _)) _) (.inl (Nat.le_refl _)) _) | (exact Upd.setCell (Upd.setCell hn (.inl hq.size) _) (.inl hq.size) _)) (fun hn => ?_)
          clear hK K
          try simp only [Act.put, List.setIfInBounds_toArray, List.set_cons_zero, List.set_cons_succ]
          refine wpAnyH_ready (rs := [1]) (by kernel_rfl) (by simp) ?_
          refine AllReadyH.cons (o := { dst := some 28, op := Op.call { callee := Callee.value (Operand.func 29), args := #[Operand.tmp 27], argTypes := #[46] }, type := 48, pos := "law.go:40", after := #[{ on := 0, ground := Ground.data }], guard := none }) rfl (fun K hK => ?_) AllReadyH.nil
          go_simp
          refine (HOA.out _).mono ?_
          rintro e wa ⟨rfl, hna⟩
          go_wp2_with fail
          have hn := New.trans hn hna
          first | have hz := Blk.new hz hna | have hz := Blk.ofDrew hna | have hz := Blk.of hna
          refine hK.out _ _ (by first | exact hn | exact Upd.alloc hn _ | (exact Upd.alloc hq _) | (exact Upd.setCell (Upd.setCell hn (.inl (Nat.le_refl _)) _) (.inl (Nat.le_refl _)) _) | (exact Upd.setCell (Upd.setCell hn (.inl hq.size) _) (.inl hq.size) _)) (fun hn => ?_)
          clear hK K
          try simp only [Act.put, List.setIfInBounds_toArray, List.set_cons_zero, List.set_cons_succ]
          refine wpAnyH_ready (rs := [3]) (by kernel_rfl) (by simp) ?_
          refine AllReadyH.cons (o := { dst := some 30, op := Op.call { callee := Callee.value (Operand.func 29), args := #[Operand.tmp 29], argTypes := #[46] }, type := 48, pos := "law.go:40", after := #[{ on := 2, ground := Ground.data }, { on := 1, ground := Ground.chain }], guard := none }) rfl (fun K hK => ?_) AllReadyH.nil
          go_simp
          refine (HOB.out _).mono ?_
          rintro e wa ⟨rfl, hna⟩
          go_wp2_with fail
          have hn := New.trans hn hna
          first | have hz := Blk.new hz hna | have hz := Blk.ofDrew hna | have hz := Blk.of hna
          refine hK.out _ _ (by first | exact hn | exact Upd.alloc hn _ | (exact Upd.alloc hq _) | (exact Upd.setCell (Upd.setCell hn (.inl (Nat.le_refl _)) _) (.inl (Nat.le_refl _)) _) | (exact Upd.setCell (Upd.setCell hn (.inl hq.size) _) (.inl hq.size) _)) (fun hn => ?_)
          clear hK K
          try simp only [Act.put, List.setIfInBounds_toArray, List.set_cons_zero, List.set_cons_succ]
          refine wpAnyH_ready (rs := [5]) (by kernel_rfl) (by simp) ?_
          refine AllReadyH.cons (o := { dst := some 32, op := Op.call { callee := Callee.value (Operand.func 38), args := #[Operand.tmp 28, Operand.tmp 30, Operand.tmp 31], argTypes := #[48, 48, 3] }, type := 58, pos := "law.go:40", after := #[{ on := 1, ground := Ground.data }, { on := 3, ground := Ground.data }, { on := 4, ground := Ground.data }, { on := 3, ground := Ground.chain }], guard := none }) rfl (fun K hK => ?_) AllReadyH.nil
          go_simp
          refine (HC.out _).mono ?_
          rintro e wa ⟨rfl, hna⟩
          go_wp2_with fail
          have hn := New.trans hn hna
          first | have hz := Blk.new hz hna | have hz := Blk.ofDrew hna | have hz := Blk.of hna
          refine hK.out _ _ (by first | exact hn | exact Upd.alloc hn _ | (exact Upd.alloc hq _) | (exact Upd.setCell (Upd.setCell hn (.inl (Nat.le_refl _)) _) (.inl (Nat.le_refl _)) _) | (exact Upd.setCell (Upd.setCell hn (.inl hq.size) _) (.inl hq.size) _)) (fun hn => ?_)
          clear hK K
          try simp only [Act.put, List.setIfInBounds_toArray, List.set_cons_zero, List.set_cons_succ]
          refine wpAnyH_ready (rs := [7]) (by kernel_rfl) (by simp) ?_
          refine AllReadyH.cons (o := { dst := none, op := Op.store 58 (Operand.tmp 7) (Operand.tmp 32), type := 0, pos := "law.go:40", after := #[{ on := 6, ground := Ground.data }, { on := 5, ground := Ground.data }, { on := 5, ground := Ground.chain }, { on := 0, ground := Ground.phase }, { on := 1, ground := Ground.phase }, { on := 2, ground := Ground.phase }, { on := 3, ground := Ground.phase }, { on := 4, ground := Ground.phase }, { on := 5, ground := Ground.phase }, { on := 6, ground := Ground.phase }], guard := none }) rfl (fun K hK => ?_) AllReadyH.nil
          first | (have z0 := hz.c0; have z1 := hz.c1; have f0 := hz.f 0; have f1 := hz.f 1; go_simp) | go_simp
          refine hK.out _ _ (by first | exact hn | exact Upd.alloc hn _ | (exact Upd.alloc hq _) | (exact Upd.setCell (Upd.setCell hn (.inl (Nat.le_refl _)) _) (.inl (Nat.le_refl _)) _) | (exact Upd.setCell (Upd.setCell hn (.inl hq.size) _) (.inl hq.size) _)) (fun hn => ?_)
          clear hK K
          try simp only [Act.put, List.setIfInBounds_toArray, List.set_cons_zero, List.set_cons_succ]
          refine wpAnyH_done (by kernel_rfl) ?_ _
          refine NoPanic.normal ?_
          go_wp2_with fail
          go_meet
          refine ⟨_, rfl, hn, ?_⟩
          first | exact Blk.put hz | exact Blk.mk
        case rest =>
          obtain ⟨g, rfl, hw, hb⟩ := hcut
          obtain ⟨p, q⟩ := c
          have z0 := hb.c0
          have z1 := hb.c1
          obtain ⟨p0, p1, q0, q1, pq⟩ := CB.out
          simp only at p0 p1 q0 q1 pq z0 z1
          have HNW := hid hw
          have PQ := hid pq
          clear pq hw hn
          go_upto_region 4 with fail
          go_cut [52] (fun t wx => t = .bool false ∧ wc = wx)
          case first =>
            by_cases hlt : q < p
            · have e := PQ.out hlt
              cases e
              go_wp2_with fail
              go_meet
              exact ⟨rfl, rfl⟩
            · have QB := hid (toldB p q q1 p1)
              go_wp2_with fail
              go_meet
              exact ⟨congrArg Value.bool QB.out, rfl⟩
          case rest =>
            obtain ⟨rfl, rfl⟩ := hcut
            go_wp2_with fail
            refine (near_any p q _ p0 (by omega) q0 (by omega)).mono ?_
            rintro e wn ⟨v, zs, rfl, hz, hlen, hbd, hnn⟩
            go_wp2_with fail
            obtain ⟨a, cap, rfl⟩ := Ints.shape hz
            have HZ := hid hz
            have HBD := hid hbd
            have Y0 := hid (hnn.cell (HNW.out.cell k0.out (fun h => h)) (fun h => h))
            have Y1 := hid (hnn.cell (HNW.out.cell k1.out (fun h => h)) (fun h => h))
            have Y2 := hid (hnn.cell (HNW.out.cell k2.out (fun h => h)) (fun h => h))
            have Y3 := hid (hnn.cell (HNW.out.cell k3.out (fun h => h)) (fun h => h))
            have Z0 := hid (hnn.cell z0 (fun h => h))
            have Z1 := hid (hnn.cell z1 (fun h => h))
            have HALL := hid (New.trans h01.out (New.trans HWC.out (New.trans HNW.out hnn)))
            clear z0 z1 hz hbd hnn hb k0 k1 k2 k3 K0 K1 K2 K3 HNW HWC HW1 h01
            go_loopg [9] zs.length (fun k i wr => ∃ j : Nat, k = zs.length - j ∧ i = .int .i64 j ∧ j ≤ zs.length ∧ New wn wr)
            case atStart => exact ⟨0, by simp, rfl, Nat.zero_le _, Upd.refl _ _⟩
            case round =>
              obtain ⟨j, rfl, rfl, hj, hw⟩ := hrel
              obtain ⟨wo, rfl⟩ : ∃ wo : World, wo = wr := ⟨_, rfl⟩
              by_cases hlt : j < zs.length
              · obtain ⟨gz, rfl, hcell⟩ := HZ.out.cell hlt
                have hc := hw.cell hcell (fun h => h)
                have hbd := HBD.out _ (List.getElem_mem hlt)
                clear hcell
                generalize zs[j] = n at *
                obtain ⟨b1, b2⟩ := hbd
                by_cases n0 : n < 0
                · have hd := decide_eq_true n0
                  go_wp2_with fail
                  go_roundg (zs.length - (j + 1))
                  case measure => omega
                  case rel => exact ⟨j + 1, rfl, by go_num, by omega, hw⟩
                · by_cases n1 : (4294967295 : Int) < n
                  · have HW := hid hw
                    clear hw
                    go_wp2_with fail
                    go_roundg (zs.length - (j + 1))
                    case measure => omega
                    case rel => exact ⟨j + 1, rfl, by go_num, by omega, HW.out⟩
                  · have hu : IntKind.u64.wrap n = n := IntWalk.u64_in n (by omega)
                    have hm := HM.out n (by omega) (by omega)
                    have HW := hid hw
                    have y0 := hid (hw.cell Y0.out (fun h => h))
                    have y1 := hid (hw.cell Y1.out (fun h => h))
                    have y2 := hid (hw.cell Y2.out (fun h => h))
                    have y3 := hid (hw.cell Y3.out (fun h => h))
                    have v0 := hid (hw.cell Z0.out (fun h => h))
                    have v1 := hid (hw.cell Z1.out (fun h => h))
                    obtain ⟨mk, hmk⟩ : ∃ c, makes ix mx bn bx r n = c := ⟨_, rfl⟩
                    have HMK := hid (fun w => makes_any ix mx bn bx r n w (by have := HIT.out; unfold item right at this; omega) (by have := HIT.out; unfold item right at this; omega) (by have := HIT.out; unfold item right at this; omega) (by omega)
                      (by have := HRT.out; unfold right at this; omega) (by have := HRT.out; unfold right at this; omega) (by have := HRT.out; unfold right at this; omega) (by omega) (by omega))
                    rw [hmk] at HMK hm
                    clear hmk hw
                    go_upto_region 12 with fail
                    have hn : New wo wo.drew := (Upd.refl _ _).drew
                    go_cut [88] (fun t wx => t = .bool false ∧ New wo wx)
                    case first =>
                      by_cases lp : p ≤ n
                      · by_cases lq : n ≤ q
                        · obtain rfl : mk = true := hm.mpr ⟨lp, lq⟩
                          clear hm
                          refine wp_region_noPanic ?_
                          refine wp_region_held_drew (S := (New wo)) (by kernel_rfl) (by first | exact hn | exact (Upd.refl _ _).drew | exact Upd.drew (by assumption)) (fun hn => ?_)
                          refine wpAnyH_take (i := 0) (oi := { dst := some 71, op := Op.load 46 (Operand.tmp 3), type := 46, pos := "law.go:50", after := #[], guard := none }) (v := ?v7x1) rfl (by kernel_rfl) (by kernel_rfl) (by kernel_rfl) (fun _ _ _ h => h) (Or.inl ⟨by rfl, ?y7x1⟩) hn ?r7x1
                          case y7x1 => (intro wS hS; have c0 := hS.cell y0.out (fun h => h); have c1 := hS.cell y1.out (fun h => h); (try go_simp); (try with_reducible rfl))
                          try simp only [Act.put, List.setIfInBounds_toArray, List.set_cons_zero, List.set_cons_succ]
                          refine wpAnyH_take (i := 1) (oi := { dst := some 72, op := Op.load 46 (Operand.tmp 4), type := 46, pos := "law.go:50", after := #[], guard := none }) (v := ?v7x2) rfl (by kernel_rfl) (by kernel_rfl) (by kernel_rfl) (fun _ _ _ h => h) (Or.inl ⟨by rfl, ?y7x2⟩) hn ?r7x2
                          case y7x2 => (intro wS hS; have c2 := hS.cell y2.out (fun h => h); have c3 := hS.cell y3.out (fun h => h); (try go_simp); (try with_reducible rfl))
                          try simp only [Act.put, List.setIfInBounds_toArray, List.set_cons_zero, List.set_cons_succ]
                          refine wpAnyH_take (i := 2) (oi := { dst := some 73, op := Op.move (Operand.tmp 2), type := 3, pos := "law.go:50", after := #[], guard := none }) (v := ?v7x3) rfl (by kernel_rfl) (by kernel_rfl) (by kernel_rfl) (fun _ _ _ h => h) (Or.inl ⟨by rfl, ?y7x3⟩) hn ?r7x3
                          case y7x3 => (intro wS hS; (try go_simp); (try with_reducible rfl))
                          try simp only [Act.put, List.setIfInBounds_toArray, List.set_cons_zero, List.set_cons_succ]
                          refine wpAnyH_take (i := 3) (oi := { dst := some 74, op := Op.move (Operand.tmp 10), type := 3, pos := "law.go:50", after := #[], guard := none }) (v := ?v7x4) rfl (by kernel_rfl) (by kernel_rfl) (by kernel_rfl) (fun _ _ _ h => h) (Or.inl ⟨by rfl, ?y7x4⟩) hn ?r7x4
                          case y7x4 => (intro wS hS; (try go_simp); (try with_reducible rfl))
                          try simp only [Act.put, List.setIfInBounds_toArray, List.set_cons_zero, List.set_cons_succ]
                          refine wpAnyH_take (i := 5) (oi := { dst := some 76, op := Op.move (Operand.tmp 10), type := 3, pos := "law.go:50", after := #[], guard := none }) (v := ?v7x5) rfl (by kernel_rfl) (by kernel_rfl) (by kernel_rfl) (fun _ _ _ h => h) (Or.inl ⟨by rfl, ?y7x5⟩) hn ?r7x5
                          case y7x5 => (intro wS hS; (try go_simp); (try with_reducible rfl))
                          try simp only [Act.put, List.setIfInBounds_toArray, List.set_cons_zero, List.set_cons_succ]
                          refine wpAnyH_take (i := 6) (oi := { dst := some 77, op := Op.convert 3 23 (Operand.tmp 76), type := 23, pos := "law.go:50", after := #[{ on := 5, ground := Ground.data }], guard := none }) (v := ?v7x6) rfl (by kernel_rfl) (by kernel_rfl) (by kernel_rfl) (fun _ _ _ h => h) (Or.inl ⟨by rfl, ?y7x6⟩) hn ?r7x6
                          case y7x6 => (intro wS hS; (try go_simp); (try with_reducible rfl))
                          try simp only [Act.put, List.setIfInBounds_toArray, List.set_cons_zero, List.set_cons_succ]
                          refine wpAnyH_take (i := 7) (oi := { dst := some 78, op := Op.fieldAddr 58 (Operand.tmp 7) 0, type := 0, pos := "law.go:50", after := #[], guard := none }) (v := ?v7x7) rfl (by kernel_rfl) (by kernel_rfl) (by kernel_rfl) (fun _ _ _ h => h) (Or.inl ⟨by rfl, ?y7x7⟩) hn ?r7x7
                          case y7x7 => (intro wS hS; (try go_simp); (try with_reducible rfl))
                          try simp only [Act.put, List.setIfInBounds_toArray, List.set_cons_zero, List.set_cons_succ]
                          refine wpAnyH_take (i := 8) (oi := { dst := some 79, op := Op.load 23 (Operand.tmp 78), type := 23, pos := "law.go:50", after := #[{ on := 7, ground := Ground.data }], guard := none }) (v := ?v7x8) rfl (by kernel_rfl) (by kernel_rfl) (by kernel_rfl) (fun _ _ _ h => h) (Or.inl ⟨by rfl, ?y7x8⟩) hn ?r7x8
                          case y7x8 => (intro wS hS; have c2 := hS.cell v0.out (fun h => h); (try go_simp); (try with_reducible rfl))
                          try simp only [Act.put, List.setIfInBounds_toArray, List.set_cons_zero, List.set_cons_succ]
                          refine wpAnyH_take (i := 9) (oi := { dst := some 80, op := Op.binOp BinOp.geq 23 (Operand.tmp 77) (Operand.tmp 79) 23, type := 4, pos := "law.go:50", after := #[{ on := 6, ground := Ground.data }, { on := 8, ground := Ground.data }], guard := none }) (v := ?v7x9) rfl (by kernel_rfl) (by kernel_rfl) (by kernel_rfl) (fun _ _ _ h => h) (Or.inl ⟨by rfl, ?y7x9⟩) hn ?r7x9
                          case y7x9 => (intro wS hS; (try go_simp); (try with_reducible rfl))
                          try simp only [Act.put, List.setIfInBounds_toArray, List.set_cons_zero, List.set_cons_succ]
                          refine wpAnyH_ready (rs := [4]) (by kernel_rfl) (by simp) ?_
                          refine AllReadyH.cons (o := { dst := some 75, op := Op.call { callee := Callee.value (Operand.func 40), args := #[Operand.tmp 71, Operand.tmp 72, Operand.tmp 73, Operand.tmp 74], argTypes := #[46, 46, 3, 3] }, type := 4, pos := "law.go:50", after := #[{ on := 0, ground := Ground.data }, { on := 1, ground := Ground.data }, { on := 2, ground := Ground.data }, { on := 3, ground := Ground.data }], guard := none }) rfl (fun K hK => ?_) AllReadyH.nil
                          go_simp
                          refine (HMK.out _).mono ?_
                          rintro e wa ⟨rfl, hna⟩
                          go_wp2_with fail
                          have hn := New.trans hn hna
                          refine hK.out _ _ (by first | exact hn | exact Upd.alloc hn _) (fun hn => ?_)
                          clear hK K
                          try simp only [Act.put, List.setIfInBounds_toArray, List.set_cons_zero, List.set_cons_succ]
                          refine wpAnyH_take (i := 10) (oi := { dst := some 81, op := Op.move (Operand.tmp 80), type := 4, pos := "law.go:50", after := #[{ on := 9, ground := Ground.data }, { on := 4, ground := Ground.chain }], guard := none }) (v := ?v7x10) rfl (by kernel_rfl) (by kernel_rfl) (by kernel_rfl) (fun _ _ _ h => h) (Or.inl ⟨by rfl, ?y7x10⟩) hn ?r7x10
                          case y7x10 => (intro wS hS; (try go_simp); (try with_reducible rfl))
                          try simp only [Act.put, List.setIfInBounds_toArray, List.set_cons_zero, List.set_cons_succ]
                          refine wpAnyH_take (i := 11) (oi := { dst := some 82, op := Op.move (Operand.tmp 10), type := 3, pos := "law.go:50", after := #[{ on := 10, ground := Ground.guard }], guard := some (10, true) }) (v := ?v7x11) rfl (by kernel_rfl) (by kernel_rfl) (by kernel_rfl) (fun _ _ _ h => h) (Or.inl ⟨by rfl, ?y7x11⟩) hn ?r7x11
                          case y7x11 => (intro wS hS; (try go_simp); (try with_reducible rfl))
                          try simp only [Act.put, List.setIfInBounds_toArray, List.set_cons_zero, List.set_cons_succ]
                          refine wpAnyH_take (i := 12) (oi := { dst := some 83, op := Op.convert 3 23 (Operand.tmp 82), type := 23, pos := "law.go:50", after := #[{ on := 11, ground := Ground.data }, { on := 10, ground := Ground.guard }], guard := some (10, true) }) (v := ?v7x12) rfl (by kernel_rfl) (by kernel_rfl) (by kernel_rfl) (fun _ _ _ h => h) (Or.inl ⟨by rfl, ?y7x12⟩) hn ?r7x12
                          case y7x12 => (intro wS hS; (try go_simp); (try with_reducible rfl))
                          try simp only [Act.put, List.setIfInBounds_toArray, List.set_cons_zero, List.set_cons_succ]
                          refine wpAnyH_take (i := 13) (oi := { dst := some 84, op := Op.fieldAddr 58 (Operand.tmp 7) 1, type := 0, pos := "law.go:50", after := #[{ on := 10, ground := Ground.guard }], guard := some (10, true) }) (v := ?v7x13) rfl (by kernel_rfl) (by kernel_rfl) (by kernel_rfl) (fun _ _ _ h => h) (Or.inl ⟨by rfl, ?y7x13⟩) hn ?r7x13
                          case y7x13 => (intro wS hS; (try go_simp); (try with_reducible rfl))
                          try simp only [Act.put, List.setIfInBounds_toArray, List.set_cons_zero, List.set_cons_succ]
                          refine wpAnyH_take (i := 14) (oi := { dst := some 85, op := Op.load 23 (Operand.tmp 84), type := 23, pos := "law.go:50", after := #[{ on := 13, ground := Ground.data }, { on := 10, ground := Ground.guard }], guard := some (10, true) }) (v := ?v7x14) rfl (by kernel_rfl) (by kernel_rfl) (by kernel_rfl) (fun _ _ _ h => h) (Or.inl ⟨by rfl, ?y7x14⟩) hn ?r7x14
                          case y7x14 => (intro wS hS; have c2 := hS.cell v1.out (fun h => h); (try go_simp); (try with_reducible rfl))
                          try simp only [Act.put, List.setIfInBounds_toArray, List.set_cons_zero, List.set_cons_succ]
                          refine wpAnyH_take (i := 15) (oi := { dst := some 86, op := Op.binOp BinOp.leq 23 (Operand.tmp 83) (Operand.tmp 85) 23, type := 4, pos := "law.go:50", after := #[{ on := 12, ground := Ground.data }, { on := 14, ground := Ground.data }, { on := 10, ground := Ground.guard }], guard := some (10, true) }) (v := ?v7x15) rfl (by kernel_rfl) (by kernel_rfl) (by kernel_rfl) (fun _ _ _ h => h) (Or.inl ⟨by rfl, ?y7x15⟩) hn ?r7x15
                          case y7x15 => (intro wS hS; (try go_simp); (try with_reducible rfl))
                          try simp only [Act.put, List.setIfInBounds_toArray, List.set_cons_zero, List.set_cons_succ]
                          refine wpAnyH_take (i := 16) (oi := { dst := some 87, op := Op.pick (Operand.tmp 81) (Operand.tmp 86) (Operand.const (Value.bool false)), type := 4, pos := "law.go:50", after := #[{ on := 10, ground := Ground.data }, { on := 15, ground := Ground.data }], guard := none }) (v := ?v7x16) rfl (by kernel_rfl) (by kernel_rfl) (by kernel_rfl) (fun _ _ _ h => h) (Or.inl ⟨by rfl, ?y7x16⟩) hn ?r7x16
                          case y7x16 => (intro wS hS; (try go_simp); (try with_reducible rfl))
                          try simp only [Act.put, List.setIfInBounds_toArray, List.set_cons_zero, List.set_cons_succ]
                          refine wpAnyH_take (i := 17) (oi := { dst := some 88, op := Op.binOp BinOp.neq 4 (Operand.tmp 75) (Operand.tmp 87) 4, type := 4, pos := "law.go:50", after := #[{ on := 4, ground := Ground.data }, { on := 16, ground := Ground.data }], guard := none }) (v := ?v7x17) rfl (by kernel_rfl) (by kernel_rfl) (by kernel_rfl) (fun _ _ _ h => h) (Or.inl ⟨by rfl, ?y7x17⟩) hn ?r7x17
                          case y7x17 => (intro wS hS; (try go_simp); (try with_reducible rfl))
                          try simp only [Act.put, List.setIfInBounds_toArray, List.set_cons_zero, List.set_cons_succ]
                          refine wpAnyH_done (by kernel_rfl) ?_ _
                          refine NoPanic.normal ?_
                          go_wp2_with fail
                          go_meet
                          exact ⟨by first | rfl | exact congrArg Value.bool (decide_eq_false lq) | exact congrArg Value.bool (decide_eq_false (Int.not_le.mpr lq)), hn⟩
                        · obtain rfl : mk = false := by cases mk with | false => rfl | true => exact absurd (hm.mp rfl).2 lq
                          clear hm
                          refine wp_region_noPanic ?_
                          refine wp_region_held_drew (S := (New wo)) (by kernel_rfl) (by first | exact hn | exact (Upd.refl _ _).drew | exact Upd.drew (by assumption)) (fun hn => ?_)
                          refine wpAnyH_take (i := 0) (oi := { dst := some 71, op := Op.load 46 (Operand.tmp 3), type := 46, pos := "law.go:50", after := #[], guard := none }) (v := ?v8x1) rfl (by kernel_rfl) (by kernel_rfl) (by kernel_rfl) (fun _ _ _ h => h) (Or.inl ⟨by rfl, ?y8x1⟩) hn ?r8x1
                          case y8x1 => (intro wS hS; have c0 := hS.cell y0.out (fun h => h); have c1 := hS.cell y1.out (fun h => h); (try go_simp); (try with_reducible rfl))
                          try simp only [Act.put, List.setIfInBounds_toArray, List.set_cons_zero, List.set_cons_succ]
                          refine wpAnyH_take (i := 1) (oi := { dst := some 72, op := Op.load 46 (Operand.tmp 4), type := 46, pos := "law.go:50", after := #[], guard := none }) (v := ?v8x2) rfl (by kernel_rfl) (by kernel_rfl) (by kernel_rfl) (fun _ _ _ h => h) (Or.inl ⟨by rfl, ?y8x2⟩) hn ?r8x2
                          case y8x2 => (intro wS hS; have c2 := hS.cell y2.out (fun h => h); have c3 := hS.cell y3.out (fun h => h); (try go_simp); (try with_reducible rfl))
                          try simp only [Act.put, List.setIfInBounds_toArray, List.set_cons_zero, List.set_cons_succ]
                          refine wpAnyH_take (i := 2) (oi := { dst := some 73, op := Op.move (Operand.tmp 2), type := 3, pos := "law.go:50", after := #[], guard := none }) (v := ?v8x3) rfl (by kernel_rfl) (by kernel_rfl) (by kernel_rfl) (fun _ _ _ h => h) (Or.inl ⟨by rfl, ?y8x3⟩) hn ?r8x3
                          case y8x3 => (intro wS hS; (try go_simp); (try with_reducible rfl))
                          try simp only [Act.put, List.setIfInBounds_toArray, List.set_cons_zero, List.set_cons_succ]
                          refine wpAnyH_take (i := 3) (oi := { dst := some 74, op := Op.move (Operand.tmp 10), type := 3, pos := "law.go:50", after := #[], guard := none }) (v := ?v8x4) rfl (by kernel_rfl) (by kernel_rfl) (by kernel_rfl) (fun _ _ _ h => h) (Or.inl ⟨by rfl, ?y8x4⟩) hn ?r8x4
                          case y8x4 => (intro wS hS; (try go_simp); (try with_reducible rfl))
                          try simp only [Act.put, List.setIfInBounds_toArray, List.set_cons_zero, List.set_cons_succ]
                          refine wpAnyH_take (i := 5) (oi := { dst := some 76, op := Op.move (Operand.tmp 10), type := 3, pos := "law.go:50", after := #[], guard := none }) (v := ?v8x5) rfl (by kernel_rfl) (by kernel_rfl) (by kernel_rfl) (fun _ _ _ h => h) (Or.inl ⟨by rfl, ?y8x5⟩) hn ?r8x5
                          case y8x5 => (intro wS hS; (try go_simp); (try with_reducible rfl))
                          try simp only [Act.put, List.setIfInBounds_toArray, List.set_cons_zero, List.set_cons_succ]
                          refine wpAnyH_take (i := 6) (oi := { dst := some 77, op := Op.convert 3 23 (Operand.tmp 76), type := 23, pos := "law.go:50", after := #[{ on := 5, ground := Ground.data }], guard := none }) (v := ?v8x6) rfl (by kernel_rfl) (by kernel_rfl) (by kernel_rfl) (fun _ _ _ h => h) (Or.inl ⟨by rfl, ?y8x6⟩) hn ?r8x6
                          case y8x6 => (intro wS hS; (try go_simp); (try with_reducible rfl))
                          try simp only [Act.put, List.setIfInBounds_toArray, List.set_cons_zero, List.set_cons_succ]
                          refine wpAnyH_take (i := 7) (oi := { dst := some 78, op := Op.fieldAddr 58 (Operand.tmp 7) 0, type := 0, pos := "law.go:50", after := #[], guard := none }) (v := ?v8x7) rfl (by kernel_rfl) (by kernel_rfl) (by kernel_rfl) (fun _ _ _ h => h) (Or.inl ⟨by rfl, ?y8x7⟩) hn ?r8x7
                          case y8x7 => (intro wS hS; (try go_simp); (try with_reducible rfl))
                          try simp only [Act.put, List.setIfInBounds_toArray, List.set_cons_zero, List.set_cons_succ]
                          refine wpAnyH_take (i := 8) (oi := { dst := some 79, op := Op.load 23 (Operand.tmp 78), type := 23, pos := "law.go:50", after := #[{ on := 7, ground := Ground.data }], guard := none }) (v := ?v8x8) rfl (by kernel_rfl) (by kernel_rfl) (by kernel_rfl) (fun _ _ _ h => h) (Or.inl ⟨by rfl, ?y8x8⟩) hn ?r8x8
                          case y8x8 => (intro wS hS; have c2 := hS.cell v0.out (fun h => h); (try go_simp); (try with_reducible rfl))
                          try simp only [Act.put, List.setIfInBounds_toArray, List.set_cons_zero, List.set_cons_succ]
                          refine wpAnyH_take (i := 9) (oi := { dst := some 80, op := Op.binOp BinOp.geq 23 (Operand.tmp 77) (Operand.tmp 79) 23, type := 4, pos := "law.go:50", after := #[{ on := 6, ground := Ground.data }, { on := 8, ground := Ground.data }], guard := none }) (v := ?v8x9) rfl (by kernel_rfl) (by kernel_rfl) (by kernel_rfl) (fun _ _ _ h => h) (Or.inl ⟨by rfl, ?y8x9⟩) hn ?r8x9
                          case y8x9 => (intro wS hS; (try go_simp); (try with_reducible rfl))
                          try simp only [Act.put, List.setIfInBounds_toArray, List.set_cons_zero, List.set_cons_succ]
                          refine wpAnyH_ready (rs := [4]) (by kernel_rfl) (by simp) ?_
                          refine AllReadyH.cons (o := { dst := some 75, op := Op.call { callee := Callee.value (Operand.func 40), args := #[Operand.tmp 71, Operand.tmp 72, Operand.tmp 73, Operand.tmp 74], argTypes := #[46, 46, 3, 3] }, type := 4, pos := "law.go:50", after := #[{ on := 0, ground := Ground.data }, { on := 1, ground := Ground.data }, { on := 2, ground := Ground.data }, { on := 3, ground := Ground.data }], guard := none }) rfl (fun K hK => ?_) AllReadyH.nil
                          go_simp
                          refine (HMK.out _).mono ?_
                          rintro e wa ⟨rfl, hna⟩
                          go_wp2_with fail
                          have hn := New.trans hn hna
                          refine hK.out _ _ (by first | exact hn | exact Upd.alloc hn _) (fun hn => ?_)
                          clear hK K
                          try simp only [Act.put, List.setIfInBounds_toArray, List.set_cons_zero, List.set_cons_succ]
                          refine wpAnyH_take (i := 10) (oi := { dst := some 81, op := Op.move (Operand.tmp 80), type := 4, pos := "law.go:50", after := #[{ on := 9, ground := Ground.data }, { on := 4, ground := Ground.chain }], guard := none }) (v := ?v8x10) rfl (by kernel_rfl) (by kernel_rfl) (by kernel_rfl) (fun _ _ _ h => h) (Or.inl ⟨by rfl, ?y8x10⟩) hn ?r8x10
                          case y8x10 => (intro wS hS; (try go_simp); (try with_reducible rfl))
                          try simp only [Act.put, List.setIfInBounds_toArray, List.set_cons_zero, List.set_cons_succ]
                          refine wpAnyH_take (i := 11) (oi := { dst := some 82, op := Op.move (Operand.tmp 10), type := 3, pos := "law.go:50", after := #[{ on := 10, ground := Ground.guard }], guard := some (10, true) }) (v := ?v8x11) rfl (by kernel_rfl) (by kernel_rfl) (by kernel_rfl) (fun _ _ _ h => h) (Or.inl ⟨by rfl, ?y8x11⟩) hn ?r8x11
                          case y8x11 => (intro wS hS; (try go_simp); (try with_reducible rfl))
                          try simp only [Act.put, List.setIfInBounds_toArray, List.set_cons_zero, List.set_cons_succ]
                          refine wpAnyH_take (i := 12) (oi := { dst := some 83, op := Op.convert 3 23 (Operand.tmp 82), type := 23, pos := "law.go:50", after := #[{ on := 11, ground := Ground.data }, { on := 10, ground := Ground.guard }], guard := some (10, true) }) (v := ?v8x12) rfl (by kernel_rfl) (by kernel_rfl) (by kernel_rfl) (fun _ _ _ h => h) (Or.inl ⟨by rfl, ?y8x12⟩) hn ?r8x12
                          case y8x12 => (intro wS hS; (try go_simp); (try with_reducible rfl))
                          try simp only [Act.put, List.setIfInBounds_toArray, List.set_cons_zero, List.set_cons_succ]
                          refine wpAnyH_take (i := 13) (oi := { dst := some 84, op := Op.fieldAddr 58 (Operand.tmp 7) 1, type := 0, pos := "law.go:50", after := #[{ on := 10, ground := Ground.guard }], guard := some (10, true) }) (v := ?v8x13) rfl (by kernel_rfl) (by kernel_rfl) (by kernel_rfl) (fun _ _ _ h => h) (Or.inl ⟨by rfl, ?y8x13⟩) hn ?r8x13
                          case y8x13 => (intro wS hS; (try go_simp); (try with_reducible rfl))
                          try simp only [Act.put, List.setIfInBounds_toArray, List.set_cons_zero, List.set_cons_succ]
                          refine wpAnyH_take (i := 14) (oi := { dst := some 85, op := Op.load 23 (Operand.tmp 84), type := 23, pos := "law.go:50", after := #[{ on := 13, ground := Ground.data }, { on := 10, ground := Ground.guard }], guard := some (10, true) }) (v := ?v8x14) rfl (by kernel_rfl) (by kernel_rfl) (by kernel_rfl) (fun _ _ _ h => h) (Or.inl ⟨by rfl, ?y8x14⟩) hn ?r8x14
                          case y8x14 => (intro wS hS; have c2 := hS.cell v1.out (fun h => h); (try go_simp); (try with_reducible rfl))
                          try simp only [Act.put, List.setIfInBounds_toArray, List.set_cons_zero, List.set_cons_succ]
                          refine wpAnyH_take (i := 15) (oi := { dst := some 86, op := Op.binOp BinOp.leq 23 (Operand.tmp 83) (Operand.tmp 85) 23, type := 4, pos := "law.go:50", after := #[{ on := 12, ground := Ground.data }, { on := 14, ground := Ground.data }, { on := 10, ground := Ground.guard }], guard := some (10, true) }) (v := ?v8x15) rfl (by kernel_rfl) (by kernel_rfl) (by kernel_rfl) (fun _ _ _ h => h) (Or.inl ⟨by rfl, ?y8x15⟩) hn ?r8x15
                          case y8x15 => (intro wS hS; (try go_simp); (try with_reducible rfl))
                          try simp only [Act.put, List.setIfInBounds_toArray, List.set_cons_zero, List.set_cons_succ]
                          refine wpAnyH_take (i := 16) (oi := { dst := some 87, op := Op.pick (Operand.tmp 81) (Operand.tmp 86) (Operand.const (Value.bool false)), type := 4, pos := "law.go:50", after := #[{ on := 10, ground := Ground.data }, { on := 15, ground := Ground.data }], guard := none }) (v := ?v8x16) rfl (by kernel_rfl) (by kernel_rfl) (by kernel_rfl) (fun _ _ _ h => h) (Or.inl ⟨by rfl, ?y8x16⟩) hn ?r8x16
                          case y8x16 => (intro wS hS; (try go_simp); (try with_reducible rfl))
                          try simp only [Act.put, List.setIfInBounds_toArray, List.set_cons_zero, List.set_cons_succ]
                          refine wpAnyH_take (i := 17) (oi := { dst := some 88, op := Op.binOp BinOp.neq 4 (Operand.tmp 75) (Operand.tmp 87) 4, type := 4, pos := "law.go:50", after := #[{ on := 4, ground := Ground.data }, { on := 16, ground := Ground.data }], guard := none }) (v := ?v8x17) rfl (by kernel_rfl) (by kernel_rfl) (by kernel_rfl) (fun _ _ _ h => h) (Or.inl ⟨by rfl, ?y8x17⟩) hn ?r8x17
                          case y8x17 => (intro wS hS; (try go_simp); (try with_reducible rfl))
                          try simp only [Act.put, List.setIfInBounds_toArray, List.set_cons_zero, List.set_cons_succ]
                          refine wpAnyH_done (by kernel_rfl) ?_ _
                          refine NoPanic.normal ?_
                          go_wp2_with fail
                          go_meet
                          exact ⟨by first | rfl | exact congrArg Value.bool (decide_eq_false lq) | exact congrArg Value.bool (decide_eq_false (Int.not_le.mpr lq)), hn⟩
                      · obtain rfl : mk = false := by cases mk with | false => rfl | true => exact absurd (hm.mp rfl).1 lp
                        clear hm
                        refine wp_region_noPanic ?_
                        refine wp_region_held_drew (S := (New wo)) (by kernel_rfl) (by first | exact hn | exact (Upd.refl _ _).drew | exact Upd.drew (by assumption)) (fun hn => ?_)
                        refine wpAnyH_take (i := 0) (oi := { dst := some 71, op := Op.load 46 (Operand.tmp 3), type := 46, pos := "law.go:50", after := #[], guard := none }) (v := ?v9x1) rfl (by kernel_rfl) (by kernel_rfl) (by kernel_rfl) (fun _ _ _ h => h) (Or.inl ⟨by rfl, ?y9x1⟩) hn ?r9x1
                        case y9x1 => (intro wS hS; have c0 := hS.cell y0.out (fun h => h); have c1 := hS.cell y1.out (fun h => h); (try go_simp); (try with_reducible rfl))
                        try simp only [Act.put, List.setIfInBounds_toArray, List.set_cons_zero, List.set_cons_succ]
                        refine wpAnyH_take (i := 1) (oi := { dst := some 72, op := Op.load 46 (Operand.tmp 4), type := 46, pos := "law.go:50", after := #[], guard := none }) (v := ?v9x2) rfl (by kernel_rfl) (by kernel_rfl) (by kernel_rfl) (fun _ _ _ h => h) (Or.inl ⟨by rfl, ?y9x2⟩) hn ?r9x2
                        case y9x2 => (intro wS hS; have c2 := hS.cell y2.out (fun h => h); have c3 := hS.cell y3.out (fun h => h); (try go_simp); (try with_reducible rfl))
                        try simp only [Act.put, List.setIfInBounds_toArray, List.set_cons_zero, List.set_cons_succ]
                        refine wpAnyH_take (i := 2) (oi := { dst := some 73, op := Op.move (Operand.tmp 2), type := 3, pos := "law.go:50", after := #[], guard := none }) (v := ?v9x3) rfl (by kernel_rfl) (by kernel_rfl) (by kernel_rfl) (fun _ _ _ h => h) (Or.inl ⟨by rfl, ?y9x3⟩) hn ?r9x3
                        case y9x3 => (intro wS hS; (try go_simp); (try with_reducible rfl))
                        try simp only [Act.put, List.setIfInBounds_toArray, List.set_cons_zero, List.set_cons_succ]
                        refine wpAnyH_take (i := 3) (oi := { dst := some 74, op := Op.move (Operand.tmp 10), type := 3, pos := "law.go:50", after := #[], guard := none }) (v := ?v9x4) rfl (by kernel_rfl) (by kernel_rfl) (by kernel_rfl) (fun _ _ _ h => h) (Or.inl ⟨by rfl, ?y9x4⟩) hn ?r9x4
                        case y9x4 => (intro wS hS; (try go_simp); (try with_reducible rfl))
                        try simp only [Act.put, List.setIfInBounds_toArray, List.set_cons_zero, List.set_cons_succ]
                        refine wpAnyH_take (i := 5) (oi := { dst := some 76, op := Op.move (Operand.tmp 10), type := 3, pos := "law.go:50", after := #[], guard := none }) (v := ?v9x5) rfl (by kernel_rfl) (by kernel_rfl) (by kernel_rfl) (fun _ _ _ h => h) (Or.inl ⟨by rfl, ?y9x5⟩) hn ?r9x5
                        case y9x5 => (intro wS hS; (try go_simp); (try with_reducible rfl))
                        try simp only [Act.put, List.setIfInBounds_toArray, List.set_cons_zero, List.set_cons_succ]
                        refine wpAnyH_take (i := 6) (oi := { dst := some 77, op := Op.convert 3 23 (Operand.tmp 76), type := 23, pos := "law.go:50", after := #[{ on := 5, ground := Ground.data }], guard := none }) (v := ?v9x6) rfl (by kernel_rfl) (by kernel_rfl) (by kernel_rfl) (fun _ _ _ h => h) (Or.inl ⟨by rfl, ?y9x6⟩) hn ?r9x6
                        case y9x6 => (intro wS hS; (try go_simp); (try with_reducible rfl))
                        try simp only [Act.put, List.setIfInBounds_toArray, List.set_cons_zero, List.set_cons_succ]
                        refine wpAnyH_take (i := 7) (oi := { dst := some 78, op := Op.fieldAddr 58 (Operand.tmp 7) 0, type := 0, pos := "law.go:50", after := #[], guard := none }) (v := ?v9x7) rfl (by kernel_rfl) (by kernel_rfl) (by kernel_rfl) (fun _ _ _ h => h) (Or.inl ⟨by rfl, ?y9x7⟩) hn ?r9x7
                        case y9x7 => (intro wS hS; (try go_simp); (try with_reducible rfl))
                        try simp only [Act.put, List.setIfInBounds_toArray, List.set_cons_zero, List.set_cons_succ]
                        refine wpAnyH_take (i := 8) (oi := { dst := some 79, op := Op.load 23 (Operand.tmp 78), type := 23, pos := "law.go:50", after := #[{ on := 7, ground := Ground.data }], guard := none }) (v := ?v9x8) rfl (by kernel_rfl) (by kernel_rfl) (by kernel_rfl) (fun _ _ _ h => h) (Or.inl ⟨by rfl, ?y9x8⟩) hn ?r9x8
                        case y9x8 => (intro wS hS; have c2 := hS.cell v0.out (fun h => h); (try go_simp); (try with_reducible rfl))
                        try simp only [Act.put, List.setIfInBounds_toArray, List.set_cons_zero, List.set_cons_succ]
                        refine wpAnyH_take (i := 9) (oi := { dst := some 80, op := Op.binOp BinOp.geq 23 (Operand.tmp 77) (Operand.tmp 79) 23, type := 4, pos := "law.go:50", after := #[{ on := 6, ground := Ground.data }, { on := 8, ground := Ground.data }], guard := none }) (v := ?v9x9) rfl (by kernel_rfl) (by kernel_rfl) (by kernel_rfl) (fun _ _ _ h => h) (Or.inl ⟨by rfl, ?y9x9⟩) hn ?r9x9
                        case y9x9 => (intro wS hS; (try go_simp); (try with_reducible rfl))
                        try simp only [Act.put, List.setIfInBounds_toArray, List.set_cons_zero, List.set_cons_succ]
                        refine wpAnyH_ready (rs := [4]) (by kernel_rfl) (by simp) ?_
                        refine AllReadyH.cons (o := { dst := some 75, op := Op.call { callee := Callee.value (Operand.func 40), args := #[Operand.tmp 71, Operand.tmp 72, Operand.tmp 73, Operand.tmp 74], argTypes := #[46, 46, 3, 3] }, type := 4, pos := "law.go:50", after := #[{ on := 0, ground := Ground.data }, { on := 1, ground := Ground.data }, { on := 2, ground := Ground.data }, { on := 3, ground := Ground.data }], guard := none }) rfl (fun K hK => ?_) AllReadyH.nil
                        go_simp
                        refine (HMK.out _).mono ?_
                        rintro e wa ⟨rfl, hna⟩
                        go_wp2_with fail
                        have hn := New.trans hn hna
                        refine hK.out _ _ (by first | exact hn | exact Upd.alloc hn _) (fun hn => ?_)
                        clear hK K
                        try simp only [Act.put, List.setIfInBounds_toArray, List.set_cons_zero, List.set_cons_succ]
                        refine wpAnyH_take (i := 10) (oi := { dst := some 81, op := Op.move (Operand.tmp 80), type := 4, pos := "law.go:50", after := #[{ on := 9, ground := Ground.data }, { on := 4, ground := Ground.chain }], guard := none }) (v := ?v9x10) rfl (by kernel_rfl) (by kernel_rfl) (by kernel_rfl) (fun _ _ _ h => h) (Or.inl ⟨by rfl, ?y9x10⟩) hn ?r9x10
                        case y9x10 => (intro wS hS; (try go_simp); (try with_reducible rfl))
                        try simp only [Act.put, List.setIfInBounds_toArray, List.set_cons_zero, List.set_cons_succ]
                        refine wpAnyH_take (i := 11) (oi := { dst := some 82, op := Op.move (Operand.tmp 10), type := 3, pos := "law.go:50", after := #[{ on := 10, ground := Ground.guard }], guard := some (10, true) }) (v := undef) rfl (by kernel_rfl) (by kernel_rfl) (by kernel_rfl) (fun _ _ _ h => h) (Or.inr ⟨by rfl, rfl⟩) hn ?_
                        try simp only [Act.put, List.setIfInBounds_toArray, List.set_cons_zero, List.set_cons_succ]
                        refine wpAnyH_take (i := 12) (oi := { dst := some 83, op := Op.convert 3 23 (Operand.tmp 82), type := 23, pos := "law.go:50", after := #[{ on := 11, ground := Ground.data }, { on := 10, ground := Ground.guard }], guard := some (10, true) }) (v := undef) rfl (by kernel_rfl) (by kernel_rfl) (by kernel_rfl) (fun _ _ _ h => h) (Or.inr ⟨by rfl, rfl⟩) hn ?_
                        try simp only [Act.put, List.setIfInBounds_toArray, List.set_cons_zero, List.set_cons_succ]
                        refine wpAnyH_take (i := 13) (oi := { dst := some 84, op := Op.fieldAddr 58 (Operand.tmp 7) 1, type := 0, pos := "law.go:50", after := #[{ on := 10, ground := Ground.guard }], guard := some (10, true) }) (v := undef) rfl (by kernel_rfl) (by kernel_rfl) (by kernel_rfl) (fun _ _ _ h => h) (Or.inr ⟨by rfl, rfl⟩) hn ?_
                        try simp only [Act.put, List.setIfInBounds_toArray, List.set_cons_zero, List.set_cons_succ]
                        refine wpAnyH_take (i := 14) (oi := { dst := some 85, op := Op.load 23 (Operand.tmp 84), type := 23, pos := "law.go:50", after := #[{ on := 13, ground := Ground.data }, { on := 10, ground := Ground.guard }], guard := some (10, true) }) (v := undef) rfl (by kernel_rfl) (by kernel_rfl) (by kernel_rfl) (fun _ _ _ h => h) (Or.inr ⟨by rfl, rfl⟩) hn ?_
                        try simp only [Act.put, List.setIfInBounds_toArray, List.set_cons_zero, List.set_cons_succ]
                        refine wpAnyH_take (i := 15) (oi := { dst := some 86, op := Op.binOp BinOp.leq 23 (Operand.tmp 83) (Operand.tmp 85) 23, type := 4, pos := "law.go:50", after := #[{ on := 12, ground := Ground.data }, { on := 14, ground := Ground.data }, { on := 10, ground := Ground.guard }], guard := some (10, true) }) (v := undef) rfl (by kernel_rfl) (by kernel_rfl) (by kernel_rfl) (fun _ _ _ h => h) (Or.inr ⟨by rfl, rfl⟩) hn ?_
                        try simp only [Act.put, List.setIfInBounds_toArray, List.set_cons_zero, List.set_cons_succ]
                        refine wpAnyH_take (i := 16) (oi := { dst := some 87, op := Op.pick (Operand.tmp 81) (Operand.tmp 86) (Operand.const (Value.bool false)), type := 4, pos := "law.go:50", after := #[{ on := 10, ground := Ground.data }, { on := 15, ground := Ground.data }], guard := none }) (v := ?v9x16) rfl (by kernel_rfl) (by kernel_rfl) (by kernel_rfl) (fun _ _ _ h => h) (Or.inl ⟨by rfl, ?y9x16⟩) hn ?r9x16
                        case y9x16 => (intro wS hS; (try go_simp); (try with_reducible rfl))
                        try simp only [Act.put, List.setIfInBounds_toArray, List.set_cons_zero, List.set_cons_succ]
                        refine wpAnyH_take (i := 17) (oi := { dst := some 88, op := Op.binOp BinOp.neq 4 (Operand.tmp 75) (Operand.tmp 87) 4, type := 4, pos := "law.go:50", after := #[{ on := 4, ground := Ground.data }, { on := 16, ground := Ground.data }], guard := none }) (v := ?v9x17) rfl (by kernel_rfl) (by kernel_rfl) (by kernel_rfl) (fun _ _ _ h => h) (Or.inl ⟨by rfl, ?y9x17⟩) hn ?r9x17
                        case y9x17 => (intro wS hS; (try go_simp); (try with_reducible rfl))
                        try simp only [Act.put, List.setIfInBounds_toArray, List.set_cons_zero, List.set_cons_succ]
                        refine wpAnyH_done (by kernel_rfl) ?_ _
                        refine NoPanic.normal ?_
                        go_wp2_with fail
                        go_meet
                        exact ⟨by first | rfl | exact congrArg Value.bool (decide_eq_false lq) | exact congrArg Value.bool (decide_eq_false (Int.not_le.mpr lq)), hn⟩
                    case rest =>
                      obtain ⟨rfl, hnc⟩ := hcut
                      go_wp2_with fail
                      go_roundg (zs.length - (j + 1))
                      case measure => omega
                      case rel => exact ⟨j + 1, rfl, by go_num, by omega, New.trans HW.out hnc⟩
              · have HW := hid hw
                clear hw
                go_wp2_with fail
                refine (awake2_any _).mono ?_
                rintro e wz ⟨rfl, hnz⟩
                go_wp2_with fail
                go_ret
                exact ⟨rfl, New.trans HALL.out (New.trans HW.out hnz)⟩
end Go.Proofs.Ytlmimlnflcfccaa
