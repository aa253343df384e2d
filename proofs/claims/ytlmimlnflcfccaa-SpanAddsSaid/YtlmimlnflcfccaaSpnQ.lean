/-
  The laws of spans: SpanAdds.
-/
import Derived.Test.YtlmimlnflcfccaaSpnA
import Derived.Test.YtlmimlnflcfccaaFrm
namespace Go.Proofs.Ytlmimlnflcfccaa
open Go.RowKit Go.Proofs.Own Go.Proofs.Span
set_option maxRecDepth 100000
set_option maxHeartbeats 1600000

theorem spanAdds_walk (an ax bn bx n : Int) (w : World) (i9 : ax ≤ 9223372036854775807) (n2 : n ≤ 9223372036854775807) :
    Calls Try.prog 7 #[.agg #[.int .i64 an, .int .i64 ax], .agg #[.int .i64 bn, .int .i64 bx], .int .i64 n] w (True' w) := by
  have HI := hid (right_any an ax)
  have HR := hid (right_any bn bx)
  obtain ⟨ci, hci⟩ : ∃ c, rightB an ax = c := ⟨_, rfl⟩
  obtain ⟨cr, hcr⟩ : ∃ c, rightB bn bx = c := ⟨_, rfl⟩
  rw [hci] at HI
  rw [hcr] at HR
  obtain ⟨w1, hw1⟩ : ∃ w1, (w.alloc (.cells #[.int .i64 an, .int .i64 ax] 46)).alloc (.cells #[.int .i64 bn, .int .i64 bx] 46) = w1 := ⟨_, rfl⟩
  have h01 : Hid (New w w1) := by show New _ _; rw [← hw1]; exact ((Upd.refl _ _).alloc _).alloc _
  have K0 : Hid (w1.cell? ⟨w.heap.size, 0, none⟩ = some (.int .i64 an)) := by show _ = _; rw [← hw1]; simp
  have K1 : Hid (w1.cell? ⟨w.heap.size, 1, none⟩ = some (.int .i64 ax)) := by show _ = _; rw [← hw1]; simp
  have K2 : Hid (w1.cell? ⟨w.heap.size + 1, 0, none⟩ = some (.int .i64 bn)) := by show _ = _; rw [← hw1]; simp
  have K3 : Hid (w1.cell? ⟨w.heap.size + 1, 1, none⟩ = some (.int .i64 bx)) := by show _ = _; rw [← hw1]; simp
  have HCI := hid hci
  have HCR := hid hcr
  have HW1 := hid hw1
  clear hci hcr hw1
  go_enter Try.func7, Try.ntmps7
  go_upto_region 1 with fail
  rw [HW1.out]
  go_cut [16] (fun c wx => New w1 wx ∧ ((c = .bool true) ∨ (c = .bool false ∧ ci = true ∧ cr = true)))
  case first =>
    have k0 := K0.out
    have k1 := K1.out
    cases ci with
    | false =>
      go_wp2_with fail
      refine (HI.out _).mono ?_
      rintro e wa ⟨rfl, rfl⟩
      go_wp2_with fail
      go_meet
      exact ⟨(Upd.refl _ _).alloc _, .inl rfl⟩
    | true =>
      go_wp2_with fail
      refine (HI.out _).mono ?_
      rintro e wa ⟨rfl, rfl⟩
      have hna := (Upd.refl (fun _ => False) w1).alloc (.cells #[.int .i64 an, .int .i64 ax] 46)
      have k2 := hna.cell K2.out (fun h => h)
      have k3 := hna.cell K3.out (fun h => h)
      have HN := hid hna
      clear k0 k1 hna
      cases cr with
      | false =>
        go_wp2_with (go_at_call 28; refine (HR.out _).mono ?_; rintro e wb ⟨rfl, rfl⟩)
        go_meet
        exact ⟨HN.out.alloc _, .inl rfl⟩
      | true =>
        go_wp2_with (go_at_call 28; refine (HR.out _).mono ?_; rintro e wb ⟨rfl, rfl⟩)
        go_meet
        exact ⟨HN.out.alloc _, .inr ⟨rfl, trivial, trivial⟩⟩
  case rest =>
    obtain ⟨hwc, rfl | ⟨rfl, rfl, rfl⟩⟩ := hcut
    · go_wp2_with fail
      go_ret
      exact ⟨rfl, New.trans h01.out hwc⟩
    · have HOA := hid (own_any an ax)
      have HOB := hid (own_any bn bx)
      have hit := (rightB_iff _ _).mp HCI.out
      have hrt := (rightB_iff _ _).mp HCR.out
      have k0 := hid (hwc.cell K0.out (fun h => h))
      have k1 := hid (hwc.cell K1.out (fun h => h))
      have k2 := hid (hwc.cell K2.out (fun h => h))
      have k3 := hid (hwc.cell K3.out (fun h => h))
      have HIT := hid hit
      have HRT := hid hrt
      clear hit hrt
      have HWC := hid hwc
      clear hwc K0 K1 K2 K3
      go_upto_region 3 with fail
      have hn : New wc wc.drew := (Upd.refl _ _).drew
      go_cut [7, 8] (fun p q wx => ∃ g7 g8, p = .pointer (some ⟨g7, 0, none⟩) ∧ q = .pointer (some ⟨g8, 0, none⟩) ∧ New wc wx ∧ Blk wx g7 (.int .i64 an) (.int .i64 ax) 48 ∧ Blk wx g8 (.int .i64 bn) (.int .i64 bx) 48)
      case first =>
        refine wp_region_noPanic ?_
        refine wp_region_held_drew (S := (New wc)) (by kernel_rfl) (by first | exact hn | exact (Upd.refl _ _).drew | exact Upd.drew (by assumption)) (fun hn => ?_)
        generalize wc.drew = wd at *
        refine wpAnyH_take (i := 0) (oi := { dst := some 17, op := Op.load 46 (Operand.tmp 3), type := 46, pos := "law.go:22", after := #[], guard := none }) (v := ?v4x1) rfl (by kernel_rfl) (by kernel_rfl) (by kernel_rfl) (fun _ _ _ h => h) (Or.inl ⟨by rfl, ?y4x1⟩) hn ?r4x1
        case y4x1 => (intro wS hS; have c0 := hS.cell k0.out (fun h => h); have c1 := hS.cell k1.out (fun h => h); (try go_simp); (try with_reducible rfl))
        try simp only [Act.put, List.setIfInBounds_toArray, List.set_cons_zero, List.set_cons_succ]
        refine wpAnyH_take (i := 2) (oi := { dst := some 19, op := Op.load 46 (Operand.tmp 4), type := 46, pos := "law.go:22", after := #[], guard := none }) (v := ?v4x2) rfl (by kernel_rfl) (by kernel_rfl) (by kernel_rfl) (fun _ _ _ h => h) (Or.inl ⟨by rfl, ?y4x2⟩) hn ?r4x2
        case y4x2 => (intro wS hS; have c2 := hS.cell k2.out (fun h => h); have c3 := hS.cell k3.out (fun h => h); (try go_simp); (try with_reducible rfl))
        try simp only [Act.put, List.setIfInBounds_toArray, List.set_cons_zero, List.set_cons_succ]
        refine wpAnyH_ready (rs := [1, 4, 5]) (by kernel_rfl) (by simp) ?_
        refine AllReadyH.cons (o := { dst := some 18, op := Op.call { callee := Callee.value (Operand.func 29), args := #[Operand.tmp 17], argTypes := #[46] }, type := 48, pos := "law.go:22", after := #[{ on := 0, ground := Ground.data }], guard := none }) rfl (fun K hK => ?_) ?_
        · skip
          go_simp
          refine (HOA.out _).mono ?_
          rintro e wa ⟨rfl, hna⟩
          go_wp2_with fail
          have hn := New.trans hn hna
          try replace hz7 := Blk.new hz7 hna
          try replace hz8 := Blk.new hz8 hna
          refine hK.out _ _ (by first | exact hn | exact Upd.alloc hn _) (fun hn => ?_)
          clear hK K
          try simp only [Act.put, List.setIfInBounds_toArray, List.set_cons_zero, List.set_cons_succ]
          refine wpAnyH_ready (rs := [3, 4, 5]) (by kernel_rfl) (by simp) ?_
          refine AllReadyH.cons (o := { dst := some 20, op := Op.call { callee := Callee.value (Operand.func 29), args := #[Operand.tmp 19], argTypes := #[46] }, type := 48, pos := "law.go:22", after := #[{ on := 2, ground := Ground.data }, { on := 1, ground := Ground.chain }], guard := none }) rfl (fun K hK => ?_) ?_
          · skip
            go_simp
            refine (HOB.out _).mono ?_
            rintro e wa ⟨rfl, hna⟩
            go_wp2_with fail
            have hn := New.trans hn hna
            try replace hz7 := Blk.new hz7 hna
            try replace hz8 := Blk.new hz8 hna
            refine hK.out _ _ (by first | exact hn | exact Upd.alloc hn _) (fun hn => ?_)
            clear hK K
            try simp only [Act.put, List.setIfInBounds_toArray, List.set_cons_zero, List.set_cons_succ]
            refine wpAnyH_ready (rs := [4, 5]) (by kernel_rfl) (by simp) ?_
            refine AllReadyH.cons (o := { dst := some 7, op := Op.alloc 48, type := 0, pos := "law.go:22", after := #[], guard := none }) rfl (fun K hK => ?_) ?_
            · skip
              go_simp
              refine absN hn ?_ hn.size
              intro g7 hg7 hf7
              rw [hg7] at hf7 ⊢
              refine allocStep hn ?_
              intro W2 hu hn hz7
              rw [hg7] at hz7
              try (have hne : g7 ≠ g8 := by have := Blk.lt hz8; omega)
              try replace hz8 := Blk.new hz8 hu
              clear hg7 hu
              refine hK.out _ _ (by first | exact hn | exact Upd.alloc hn _) (fun hn => ?_)
              clear hK K
              try simp only [Act.put, List.setIfInBounds_toArray, List.set_cons_zero, List.set_cons_succ]
              refine wpAnyH_ready (rs := [5]) (by kernel_rfl) (by simp) ?_
              refine AllReadyH.cons (o := { dst := some 8, op := Op.alloc 48, type := 0, pos := "law.go:22", after := #[], guard := none }) rfl (fun K hK => ?_) AllReadyH.nil
              go_simp
              refine absN hn ?_ hn.size
              intro g8 hg8 hf8
              rw [hg8] at hf8 ⊢
              refine allocStep hn ?_
              intro W2 hu hn hz8
              rw [hg8] at hz8
              try (have hne : g7 ≠ g8 := by have := Blk.lt hz7; omega)
              try replace hz7 := Blk.new hz7 hu
              clear hg8 hu
              refine hK.out _ _ (by first | exact hn | exact Upd.alloc hn _) (fun hn => ?_)
              clear hK K
              try simp only [Act.put, List.setIfInBounds_toArray, List.set_cons_zero, List.set_cons_succ]
              refine wpAnyH_ready (rs := [6]) (by kernel_rfl) (by simp) ?_
              refine AllReadyH.cons (o := { dst := none, op := Op.store 48 (Operand.tmp 7) (Operand.tmp 18), type := 0, pos := "law.go:22", after := #[{ on := 4, ground := Ground.data }, { on := 1, ground := Ground.data }, { on := 3, ground := Ground.chain }, { on := 0, ground := Ground.phase }, { on := 1, ground := Ground.phase }, { on := 2, ground := Ground.textOnly Departure.lateStores }, { on := 3, ground := Ground.textOnly Departure.lateStoresUnsure }, { on := 4, ground := Ground.phase }, { on := 5, ground := Ground.phase }], guard := none }) rfl (fun K hK => ?_) AllReadyH.nil
              have z0 := hz7.c0
              have z1 := hz7.c1
              have f0 := hz7.f 0
              have f1 := hz7.f 1
              go_simp
              refine storeStep hn hz7 hf7 ?_
              clear z0 z1 f0 f1
              intro W2 hn hz7' hO
              replace hz8 := hO _ _ _ _ (Ne.symm hne) hz8
              clear hO hz7
              have hz7 := hz7'
              refine hK.out _ _ (by first | exact hn | exact Upd.alloc hn _) (fun hn => ?_)
              clear hK K
              try simp only [Act.put, List.setIfInBounds_toArray, List.set_cons_zero, List.set_cons_succ]
              refine wpAnyH_ready (rs := [7]) (by kernel_rfl) (by simp) ?_
              refine AllReadyH.cons (o := { dst := none, op := Op.store 48 (Operand.tmp 8) (Operand.tmp 20), type := 0, pos := "law.go:22", after := #[{ on := 5, ground := Ground.data }, { on := 3, ground := Ground.data }, { on := 6, ground := Ground.chain }, { on := 0, ground := Ground.phase }, { on := 1, ground := Ground.phase }, { on := 2, ground := Ground.phase }, { on := 3, ground := Ground.phase }, { on := 4, ground := Ground.phase }, { on := 5, ground := Ground.phase }, { on := 6, ground := Ground.phase }], guard := none }) rfl (fun K hK => ?_) AllReadyH.nil
              have z0 := hz8.c0
              have z1 := hz8.c1
              have f0 := hz8.f 0
              have f1 := hz8.f 1
              go_simp
              refine storeStep hn hz8 hf8 ?_
              clear z0 z1 f0 f1
              intro W2 hn hz8' hO
              replace hz7 := hO _ _ _ _ hne hz7
              clear hO hz8
              have hz8 := hz8'
              refine hK.out _ _ (by first | exact hn | exact Upd.alloc hn _) (fun hn => ?_)
              clear hK K
              try simp only [Act.put, List.setIfInBounds_toArray, List.set_cons_zero, List.set_cons_succ]
              refine wpAnyH_done (by kernel_rfl) ?_ _
              refine NoPanic.normal ?_
              go_wp2_with fail
              go_meet
              exact ⟨g7, g8, rfl, rfl, hn, hz7, hz8⟩
            refine AllReadyH.cons (o := { dst := some 8, op := Op.alloc 48, type := 0, pos := "law.go:22", after := #[], guard := none }) rfl (fun K hK => ?_) AllReadyH.nil
            go_simp
            refine absN hn ?_ hn.size
            intro g8 hg8 hf8
            rw [hg8] at hf8 ⊢
            refine allocStep hn ?_
            intro W2 hu hn hz8
            rw [hg8] at hz8
            try (have hne : g7 ≠ g8 := by have := Blk.lt hz7; omega)
            try replace hz7 := Blk.new hz7 hu
            clear hg8 hu
            refine hK.out _ _ (by first | exact hn | exact Upd.alloc hn _) (fun hn => ?_)
            clear hK K
            try simp only [Act.put, List.setIfInBounds_toArray, List.set_cons_zero, List.set_cons_succ]
            refine wpAnyH_ready (rs := [4]) (by kernel_rfl) (by simp) ?_
            refine AllReadyH.cons (o := { dst := some 7, op := Op.alloc 48, type := 0, pos := "law.go:22", after := #[], guard := none }) rfl (fun K hK => ?_) AllReadyH.nil
            go_simp
            refine absN hn ?_ hn.size
            intro g7 hg7 hf7
            rw [hg7] at hf7 ⊢
            refine allocStep hn ?_
            intro W2 hu hn hz7
            rw [hg7] at hz7
            try (have hne : g7 ≠ g8 := by have := Blk.lt hz8; omega)
            try replace hz8 := Blk.new hz8 hu
            clear hg7 hu
            refine hK.out _ _ (by first | exact hn | exact Upd.alloc hn _) (fun hn => ?_)
            clear hK K
            try simp only [Act.put, List.setIfInBounds_toArray, List.set_cons_zero, List.set_cons_succ]
            refine wpAnyH_ready (rs := [6]) (by kernel_rfl) (by simp) ?_
            refine AllReadyH.cons (o := { dst := none, op := Op.store 48 (Operand.tmp 7) (Operand.tmp 18), type := 0, pos := "law.go:22", after := #[{ on := 4, ground := Ground.data }, { on := 1, ground := Ground.data }, { on := 3, ground := Ground.chain }, { on := 0, ground := Ground.phase }, { on := 1, ground := Ground.phase }, { on := 2, ground := Ground.textOnly Departure.lateStores }, { on := 3, ground := Ground.textOnly Departure.lateStoresUnsure }, { on := 4, ground := Ground.phase }, { on := 5, ground := Ground.phase }], guard := none }) rfl (fun K hK => ?_) AllReadyH.nil
            have z0 := hz7.c0
            have z1 := hz7.c1
            have f0 := hz7.f 0
            have f1 := hz7.f 1
            go_simp
            refine storeStep hn hz7 hf7 ?_
            clear z0 z1 f0 f1
            intro W2 hn hz7' hO
            replace hz8 := hO _ _ _ _ (Ne.symm hne) hz8
            clear hO hz7
            have hz7 := hz7'
            refine hK.out _ _ (by first | exact hn | exact Upd.alloc hn _) (fun hn => ?_)
            clear hK K
            try simp only [Act.put, List.setIfInBounds_toArray, List.set_cons_zero, List.set_cons_succ]
            refine wpAnyH_ready (rs := [7]) (by kernel_rfl) (by simp) ?_
            refine AllReadyH.cons (o := { dst := none, op := Op.store 48 (Operand.tmp 8) (Operand.tmp 20), type := 0, pos := "law.go:22", after := #[{ on := 5, ground := Ground.data }, { on := 3, ground := Ground.data }, { on := 6, ground := Ground.chain }, { on := 0, ground := Ground.phase }, { on := 1, ground := Ground.phase }, { on := 2, ground := Ground.phase }, { on := 3, ground := Ground.phase }, { on := 4, ground := Ground.phase }, { on := 5, ground := Ground.phase }, { on := 6, ground := Ground.phase }], guard := none }) rfl (fun K hK => ?_) AllReadyH.nil
            have z0 := hz8.c0
            have z1 := hz8.c1
            have f0 := hz8.f 0
            have f1 := hz8.f 1
            go_simp
            refine storeStep hn hz8 hf8 ?_
            clear z0 z1 f0 f1
            intro W2 hn hz8' hO
            replace hz7 := hO _ _ _ _ hne hz7
            clear hO hz8
            have hz8 := hz8'
            refine hK.out _ _ (by first | exact hn | exact Upd.alloc hn _) (fun hn => ?_)
            clear hK K
            try simp only [Act.put, List.setIfInBounds_toArray, List.set_cons_zero, List.set_cons_succ]
            refine wpAnyH_done (by kernel_rfl) ?_ _
            refine NoPanic.normal ?_
            go_wp2_with fail
            go_meet
            exact ⟨g7, g8, rfl, rfl, hn, hz7, hz8⟩
          refine AllReadyH.cons (o := { dst := some 7, op := Op.alloc 48, type := 0, pos := "law.go:22", after := #[], guard := none }) rfl (fun K hK => ?_) ?_
          · skip
            go_simp
            refine absN hn ?_ hn.size
            intro g7 hg7 hf7
            rw [hg7] at hf7 ⊢
            refine allocStep hn ?_
            intro W2 hu hn hz7
            rw [hg7] at hz7
            try (have hne : g7 ≠ g8 := by have := Blk.lt hz8; omega)
            try replace hz8 := Blk.new hz8 hu
            clear hg7 hu
            refine hK.out _ _ (by first | exact hn | exact Upd.alloc hn _) (fun hn => ?_)
            clear hK K
            try simp only [Act.put, List.setIfInBounds_toArray, List.set_cons_zero, List.set_cons_succ]
            refine wpAnyH_ready (rs := [3, 5]) (by kernel_rfl) (by simp) ?_
            refine AllReadyH.cons (o := { dst := some 20, op := Op.call { callee := Callee.value (Operand.func 29), args := #[Operand.tmp 19], argTypes := #[46] }, type := 48, pos := "law.go:22", after := #[{ on := 2, ground := Ground.data }, { on := 1, ground := Ground.chain }], guard := none }) rfl (fun K hK => ?_) ?_
            · skip
              go_simp
              refine (HOB.out _).mono ?_
              rintro e wa ⟨rfl, hna⟩
              go_wp2_with fail
              have hn := New.trans hn hna
              try replace hz7 := Blk.new hz7 hna
              try replace hz8 := Blk.new hz8 hna
              refine hK.out _ _ (by first | exact hn | exact Upd.alloc hn _) (fun hn => ?_)
              clear hK K
              try simp only [Act.put, List.setIfInBounds_toArray, List.set_cons_zero, List.set_cons_succ]
              refine wpAnyH_ready (rs := [5]) (by kernel_rfl) (by simp) ?_
              refine AllReadyH.cons (o := { dst := some 8, op := Op.alloc 48, type := 0, pos := "law.go:22", after := #[], guard := none }) rfl (fun K hK => ?_) AllReadyH.nil
              go_simp
              refine absN hn ?_ hn.size
              intro g8 hg8 hf8
              rw [hg8] at hf8 ⊢
              refine allocStep hn ?_
              intro W2 hu hn hz8
              rw [hg8] at hz8
              try (have hne : g7 ≠ g8 := by have := Blk.lt hz7; omega)
              try replace hz7 := Blk.new hz7 hu
              clear hg8 hu
              refine hK.out _ _ (by first | exact hn | exact Upd.alloc hn _) (fun hn => ?_)
              clear hK K
              try simp only [Act.put, List.setIfInBounds_toArray, List.set_cons_zero, List.set_cons_succ]
              refine wpAnyH_ready (rs := [6]) (by kernel_rfl) (by simp) ?_
              refine AllReadyH.cons (o := { dst := none, op := Op.store 48 (Operand.tmp 7) (Operand.tmp 18), type := 0, pos := "law.go:22", after := #[{ on := 4, ground := Ground.data }, { on := 1, ground := Ground.data }, { on := 3, ground := Ground.chain }, { on := 0, ground := Ground.phase }, { on := 1, ground := Ground.phase }, { on := 2, ground := Ground.textOnly Departure.lateStores }, { on := 3, ground := Ground.textOnly Departure.lateStoresUnsure }, { on := 4, ground := Ground.phase }, { on := 5, ground := Ground.phase }], guard := none }) rfl (fun K hK => ?_) AllReadyH.nil
              have z0 := hz7.c0
              have z1 := hz7.c1
              have f0 := hz7.f 0
              have f1 := hz7.f 1
              go_simp
              refine storeStep hn hz7 hf7 ?_
              clear z0 z1 f0 f1
              intro W2 hn hz7' hO
              replace hz8 := hO _ _ _ _ (Ne.symm hne) hz8
              clear hO hz7
              have hz7 := hz7'
              refine hK.out _ _ (by first | exact hn | exact Upd.alloc hn _) (fun hn => ?_)
              clear hK K
              try simp only [Act.put, List.setIfInBounds_toArray, List.set_cons_zero, List.set_cons_succ]
              refine wpAnyH_ready (rs := [7]) (by kernel_rfl) (by simp) ?_
              refine AllReadyH.cons (o := { dst := none, op := Op.store 48 (Operand.tmp 8) (Operand.tmp 20), type := 0, pos := "law.go:22", after := #[{ on := 5, ground := Ground.data }, { on := 3, ground := Ground.data }, { on := 6, ground := Ground.chain }, { on := 0, ground := Ground.phase }, { on := 1, ground := Ground.phase }, { on := 2, ground := Ground.phase }, { on := 3, ground := Ground.phase }, { on := 4, ground := Ground.phase }, { on := 5, ground := Ground.phase }, { on := 6, ground := Ground.phase }], guard := none }) rfl (fun K hK => ?_) AllReadyH.nil
              have z0 := hz8.c0
              have z1 := hz8.c1
              have f0 := hz8.f 0
              have f1 := hz8.f 1
              go_simp
              refine storeStep hn hz8 hf8 ?_
              clear z0 z1 f0 f1
              intro W2 hn hz8' hO
              replace hz7 := hO _ _ _ _ hne hz7
              clear hO hz8
              have hz8 := hz8'
              refine hK.out _ _ (by first | exact hn | exact Upd.alloc hn _) (fun hn => ?_)
              clear hK K
              try simp only [Act.put, List.setIfInBounds_toArray, List.set_cons_zero, List.set_cons_succ]
              refine wpAnyH_done (by kernel_rfl) ?_ _
              refine NoPanic.normal ?_
              go_wp2_with fail
              go_meet
              exact ⟨g7, g8, rfl, rfl, hn, hz7, hz8⟩
            refine AllReadyH.cons (o := { dst := some 8, op := Op.alloc 48, type := 0, pos := "law.go:22", after := #[], guard := none }) rfl (fun K hK => ?_) AllReadyH.nil
            go_simp
            refine absN hn ?_ hn.size
            intro g8 hg8 hf8
            rw [hg8] at hf8 ⊢
            refine allocStep hn ?_
            intro W2 hu hn hz8
            rw [hg8] at hz8
            try (have hne : g7 ≠ g8 := by have := Blk.lt hz7; omega)
            try replace hz7 := Blk.new hz7 hu
            clear hg8 hu
            refine hK.out _ _ (by first | exact hn | exact Upd.alloc hn _) (fun hn => ?_)
            clear hK K
            try simp only [Act.put, List.setIfInBounds_toArray, List.set_cons_zero, List.set_cons_succ]
            refine wpAnyH_ready (rs := [3]) (by kernel_rfl) (by simp) ?_
            refine AllReadyH.cons (o := { dst := some 20, op := Op.call { callee := Callee.value (Operand.func 29), args := #[Operand.tmp 19], argTypes := #[46] }, type := 48, pos := "law.go:22", after := #[{ on := 2, ground := Ground.data }, { on := 1, ground := Ground.chain }], guard := none }) rfl (fun K hK => ?_) AllReadyH.nil
            go_simp
            refine (HOB.out _).mono ?_
            rintro e wa ⟨rfl, hna⟩
            go_wp2_with fail
            have hn := New.trans hn hna
            try replace hz7 := Blk.new hz7 hna
            try replace hz8 := Blk.new hz8 hna
            refine hK.out _ _ (by first | exact hn | exact Upd.alloc hn _) (fun hn => ?_)
            clear hK K
            try simp only [Act.put, List.setIfInBounds_toArray, List.set_cons_zero, List.set_cons_succ]
            refine wpAnyH_ready (rs := [6]) (by kernel_rfl) (by simp) ?_
            refine AllReadyH.cons (o := { dst := none, op := Op.store 48 (Operand.tmp 7) (Operand.tmp 18), type := 0, pos := "law.go:22", after := #[{ on := 4, ground := Ground.data }, { on := 1, ground := Ground.data }, { on := 3, ground := Ground.chain }, { on := 0, ground := Ground.phase }, { on := 1, ground := Ground.phase }, { on := 2, ground := Ground.textOnly Departure.lateStores }, { on := 3, ground := Ground.textOnly Departure.lateStoresUnsure }, { on := 4, ground := Ground.phase }, { on := 5, ground := Ground.phase }], guard := none }) rfl (fun K hK => ?_) AllReadyH.nil
            have z0 := hz7.c0
            have z1 := hz7.c1
            have f0 := hz7.f 0
            have f1 := hz7.f 1
            go_simp
            refine storeStep hn hz7 hf7 ?_
            clear z0 z1 f0 f1
            intro W2 hn hz7' hO
            replace hz8 := hO _ _ _ _ (Ne.symm hne) hz8
            clear hO hz7
            have hz7 := hz7'
            refine hK.out _ _ (by first | exact hn | exact Upd.alloc hn _) (fun hn => ?_)
            clear hK K
            try simp only [Act.put, List.setIfInBounds_toArray, List.set_cons_zero, List.set_cons_succ]
            refine wpAnyH_ready (rs := [7]) (by kernel_rfl) (by simp) ?_
            refine AllReadyH.cons (o := { dst := none, op := Op.store 48 (Operand.tmp 8) (Operand.tmp 20), type := 0, pos := "law.go:22", after := #[{ on := 5, ground := Ground.data }, { on := 3, ground := Ground.data }, { on := 6, ground := Ground.chain }, { on := 0, ground := Ground.phase }, { on := 1, ground := Ground.phase }, { on := 2, ground := Ground.phase }, { on := 3, ground := Ground.phase }, { on := 4, ground := Ground.phase }, { on := 5, ground := Ground.phase }, { on := 6, ground := Ground.phase }], guard := none }) rfl (fun K hK => ?_) AllReadyH.nil
            have z0 := hz8.c0
            have z1 := hz8.c1
            have f0 := hz8.f 0
            have f1 := hz8.f 1
            go_simp
            refine storeStep hn hz8 hf8 ?_
            clear z0 z1 f0 f1
            intro W2 hn hz8' hO
            replace hz7 := hO _ _ _ _ hne hz7
            clear hO hz8
            have hz8 := hz8'
            refine hK.out _ _ (by first | exact hn | exact Upd.alloc hn _) (fun hn => ?_)
            clear hK K
            try simp only [Act.put, List.setIfInBounds_toArray, List.set_cons_zero, List.set_cons_succ]
            refine wpAnyH_done (by kernel_rfl) ?_ _
            refine NoPanic.normal ?_
            go_wp2_with fail
            go_meet
            exact ⟨g7, g8, rfl, rfl, hn, hz7, hz8⟩
          refine AllReadyH.cons (o := { dst := some 8, op := Op.alloc 48, type := 0, pos := "law.go:22", after := #[], guard := none }) rfl (fun K hK => ?_) AllReadyH.nil
          go_simp
          refine absN hn ?_ hn.size
          intro g8 hg8 hf8
          rw [hg8] at hf8 ⊢
          refine allocStep hn ?_
          intro W2 hu hn hz8
          rw [hg8] at hz8
          try (have hne : g7 ≠ g8 := by have := Blk.lt hz7; omega)
          try replace hz7 := Blk.new hz7 hu
          clear hg8 hu
          refine hK.out _ _ (by first | exact hn | exact Upd.alloc hn _) (fun hn => ?_)
          clear hK K
          try simp only [Act.put, List.setIfInBounds_toArray, List.set_cons_zero, List.set_cons_succ]
          refine wpAnyH_ready (rs := [3, 4]) (by kernel_rfl) (by simp) ?_
          refine AllReadyH.cons (o := { dst := some 20, op := Op.call { callee := Callee.value (Operand.func 29), args := #[Operand.tmp 19], argTypes := #[46] }, type := 48, pos := "law.go:22", after := #[{ on := 2, ground := Ground.data }, { on := 1, ground := Ground.chain }], guard := none }) rfl (fun K hK => ?_) ?_
          · skip
            go_simp
            refine (HOB.out _).mono ?_
            rintro e wa ⟨rfl, hna⟩
            go_wp2_with fail
            have hn := New.trans hn hna
            try replace hz7 := Blk.new hz7 hna
            try replace hz8 := Blk.new hz8 hna
            refine hK.out _ _ (by first | exact hn | exact Upd.alloc hn _) (fun hn => ?_)
            clear hK K
            try simp only [Act.put, List.setIfInBounds_toArray, List.set_cons_zero, List.set_cons_succ]
            refine wpAnyH_ready (rs := [4]) (by kernel_rfl) (by simp) ?_
            refine AllReadyH.cons (o := { dst := some 7, op := Op.alloc 48, type := 0, pos := "law.go:22", after := #[], guard := none }) rfl (fun K hK => ?_) AllReadyH.nil
            go_simp
            refine absN hn ?_ hn.size
            intro g7 hg7 hf7
            rw [hg7] at hf7 ⊢
            refine allocStep hn ?_
            intro W2 hu hn hz7
            rw [hg7] at hz7
            try (have hne : g7 ≠ g8 := by have := Blk.lt hz8; omega)
            try replace hz8 := Blk.new hz8 hu
            clear hg7 hu
            refine hK.out _ _ (by first | exact hn | exact Upd.alloc hn _) (fun hn => ?_)
            clear hK K
            try simp only [Act.put, List.setIfInBounds_toArray, List.set_cons_zero, List.set_cons_succ]
            refine wpAnyH_ready (rs := [6]) (by kernel_rfl) (by simp) ?_
            refine AllReadyH.cons (o := { dst := none, op := Op.store 48 (Operand.tmp 7) (Operand.tmp 18), type := 0, pos := "law.go:22", after := #[{ on := 4, ground := Ground.data }, { on := 1, ground := Ground.data }, { on := 3, ground := Ground.chain }, { on := 0, ground := Ground.phase }, { on := 1, ground := Ground.phase }, { on := 2, ground := Ground.textOnly Departure.lateStores }, { on := 3, ground := Ground.textOnly Departure.lateStoresUnsure }, { on := 4, ground := Ground.phase }, { on := 5, ground := Ground.phase }], guard := none }) rfl (fun K hK => ?_) AllReadyH.nil
            have z0 := hz7.c0
            have z1 := hz7.c1
            have f0 := hz7.f 0
            have f1 := hz7.f 1
            go_simp
            refine storeStep hn hz7 hf7 ?_
            clear z0 z1 f0 f1
            intro W2 hn hz7' hO
            replace hz8 := hO _ _ _ _ (Ne.symm hne) hz8
            clear hO hz7
            have hz7 := hz7'
            refine hK.out _ _ (by first | exact hn | exact Upd.alloc hn _) (fun hn => ?_)
            clear hK K
            try simp only [Act.put, List.setIfInBounds_toArray, List.set_cons_zero, List.set_cons_succ]
            refine wpAnyH_ready (rs := [7]) (by kernel_rfl) (by simp) ?_
            refine AllReadyH.cons (o := { dst := none, op := Op.store 48 (Operand.tmp 8) (Operand.tmp 20), type := 0, pos := "law.go:22", after := #[{ on := 5, ground := Ground.data }, { on := 3, ground := Ground.data }, { on := 6, ground := Ground.chain }, { on := 0, ground := Ground.phase }, { on := 1, ground := Ground.phase }, { on := 2, ground := Ground.phase }, { on := 3, ground := Ground.phase }, { on := 4, ground := Ground.phase }, { on := 5, ground := Ground.phase }, { on := 6, ground := Ground.phase }], guard := none }) rfl (fun K hK => ?_) AllReadyH.nil
            have z0 := hz8.c0
            have z1 := hz8.c1
            have f0 := hz8.f 0
            have f1 := hz8.f 1
            go_simp
            refine storeStep hn hz8 hf8 ?_
            clear z0 z1 f0 f1
            intro W2 hn hz8' hO
            replace hz7 := hO _ _ _ _ hne hz7
            clear hO hz8
            have hz8 := hz8'
            refine hK.out _ _ (by first | exact hn | exact Upd.alloc hn _) (fun hn => ?_)
            clear hK K
            try simp only [Act.put, List.setIfInBounds_toArray, List.set_cons_zero, List.set_cons_succ]
            refine wpAnyH_done (by kernel_rfl) ?_ _
            refine NoPanic.normal ?_
            go_wp2_with fail
            go_meet
            exact ⟨g7, g8, rfl, rfl, hn, hz7, hz8⟩
          refine AllReadyH.cons (o := { dst := some 7, op := Op.alloc 48, type := 0, pos := "law.go:22", after := #[], guard := none }) rfl (fun K hK => ?_) AllReadyH.nil
          go_simp
          refine absN hn ?_ hn.size
          intro g7 hg7 hf7
          rw [hg7] at hf7 ⊢
          refine allocStep hn ?_
          intro W2 hu hn hz7
          rw [hg7] at hz7
          try (have hne : g7 ≠ g8 := by have := Blk.lt hz8; omega)
          try replace hz8 := Blk.new hz8 hu
          clear hg7 hu
          refine hK.out _ _ (by first | exact hn | exact Upd.alloc hn _) (fun hn => ?_)
          clear hK K
          try simp only [Act.put, List.setIfInBounds_toArray, List.set_cons_zero, List.set_cons_succ]
          refine wpAnyH_ready (rs := [3]) (by kernel_rfl) (by simp) ?_
          refine AllReadyH.cons (o := { dst := some 20, op := Op.call { callee := Callee.value (Operand.func 29), args := #[Operand.tmp 19], argTypes := #[46] }, type := 48, pos := "law.go:22", after := #[{ on := 2, ground := Ground.data }, { on := 1, ground := Ground.chain }], guard := none }) rfl (fun K hK => ?_) AllReadyH.nil
          go_simp
          refine (HOB.out _).mono ?_
          rintro e wa ⟨rfl, hna⟩
          go_wp2_with fail
          have hn := New.trans hn hna
          try replace hz7 := Blk.new hz7 hna
          try replace hz8 := Blk.new hz8 hna
          refine hK.out _ _ (by first | exact hn | exact Upd.alloc hn _) (fun hn => ?_)
          clear hK K
          try simp only [Act.put, List.setIfInBounds_toArray, List.set_cons_zero, List.set_cons_succ]
          refine wpAnyH_ready (rs := [6]) (by kernel_rfl) (by simp) ?_
          refine AllReadyH.cons (o := { dst := none, op := Op.store 48 (Operand.tmp 7) (Operand.tmp 18), type := 0, pos := "law.go:22", after := #[{ on := 4, ground := Ground.data }, { on := 1, ground := Ground.data }, { on := 3, ground := Ground.chain }, { on := 0, ground := Ground.phase }, { on := 1, ground := Ground.phase }, { on := 2, ground := Ground.textOnly Departure.lateStores }, { on := 3, ground := Ground.textOnly Departure.lateStoresUnsure }, { on := 4, ground := Ground.phase }, { on := 5, ground := Ground.phase }], guard := none }) rfl (fun K hK => ?_) AllReadyH.nil
          have z0 := hz7.c0
          have z1 := hz7.c1
          have f0 := hz7.f 0
          have f1 := hz7.f 1
          go_simp
          refine storeStep hn hz7 hf7 ?_
          clear z0 z1 f0 f1
          intro W2 hn hz7' hO
          replace hz8 := hO _ _ _ _ (Ne.symm hne) hz8
          clear hO hz7
          have hz7 := hz7'
          refine hK.out _ _ (by first | exact hn | exact Upd.alloc hn _) (fun hn => ?_)
          clear hK K
          try simp only [Act.put, List.setIfInBounds_toArray, List.set_cons_zero, List.set_cons_succ]
          refine wpAnyH_ready (rs := [7]) (by kernel_rfl) (by simp) ?_
          refine AllReadyH.cons (o := { dst := none, op := Op.store 48 (Operand.tmp 8) (Operand.tmp 20), type := 0, pos := "law.go:22", after := #[{ on := 5, ground := Ground.data }, { on := 3, ground := Ground.data }, { on := 6, ground := Ground.chain }, { on := 0, ground := Ground.phase }, { on := 1, ground := Ground.phase }, { on := 2, ground := Ground.phase }, { on := 3, ground := Ground.phase }, { on := 4, ground := Ground.phase }, { on := 5, ground := Ground.phase }, { on := 6, ground := Ground.phase }], guard := none }) rfl (fun K hK => ?_) AllReadyH.nil
          have z0 := hz8.c0
          have z1 := hz8.c1
          have f0 := hz8.f 0
          have f1 := hz8.f 1
          go_simp
          refine storeStep hn hz8 hf8 ?_
          clear z0 z1 f0 f1
          intro W2 hn hz8' hO
          replace hz7 := hO _ _ _ _ hne hz7
          clear hO hz8
          have hz8 := hz8'
          refine hK.out _ _ (by first | exact hn | exact Upd.alloc hn _) (fun hn => ?_)
          clear hK K
          try simp only [Act.put, List.setIfInBounds_toArray, List.set_cons_zero, List.set_cons_succ]
          refine wpAnyH_done (by kernel_rfl) ?_ _
          refine NoPanic.normal ?_
          go_wp2_with fail
          go_meet
          exact ⟨g7, g8, rfl, rfl, hn, hz7, hz8⟩
        refine AllReadyH.cons (o := { dst := some 7, op := Op.alloc 48, type := 0, pos := "law.go:22", after := #[], guard := none }) rfl (fun K hK => ?_) ?_
        · skip
          go_simp
          refine absN hn ?_ hn.size
          intro g7 hg7 hf7
          rw [hg7] at hf7 ⊢
          refine allocStep hn ?_
          intro W2 hu hn hz7
          rw [hg7] at hz7
          try (have hne : g7 ≠ g8 := by have := Blk.lt hz8; omega)
          try replace hz8 := Blk.new hz8 hu
          clear hg7 hu
          refine hK.out _ _ (by first | exact hn | exact Upd.alloc hn _) (fun hn => ?_)
          clear hK K
          try simp only [Act.put, List.setIfInBounds_toArray, List.set_cons_zero, List.set_cons_succ]
          refine wpAnyH_ready (rs := [1, 5]) (by kernel_rfl) (by simp) ?_
          refine AllReadyH.cons (o := { dst := some 18, op := Op.call { callee := Callee.value (Operand.func 29), args := #[Operand.tmp 17], argTypes := #[46] }, type := 48, pos := "law.go:22", after := #[{ on := 0, ground := Ground.data }], guard := none }) rfl (fun K hK => ?_) ?_
          · skip
            go_simp
            refine (HOA.out _).mono ?_
            rintro e wa ⟨rfl, hna⟩
            go_wp2_with fail
            have hn := New.trans hn hna
            try replace hz7 := Blk.new hz7 hna
            try replace hz8 := Blk.new hz8 hna
            refine hK.out _ _ (by first | exact hn | exact Upd.alloc hn _) (fun hn => ?_)
            clear hK K
            try simp only [Act.put, List.setIfInBounds_toArray, List.set_cons_zero, List.set_cons_succ]
            refine wpAnyH_ready (rs := [3, 5]) (by kernel_rfl) (by simp) ?_
            refine AllReadyH.cons (o := { dst := some 20, op := Op.call { callee := Callee.value (Operand.func 29), args := #[Operand.tmp 19], argTypes := #[46] }, type := 48, pos := "law.go:22", after := #[{ on := 2, ground := Ground.data }, { on := 1, ground := Ground.chain }], guard := none }) rfl (fun K hK => ?_) ?_
            · skip
              go_simp
              refine (HOB.out _).mono ?_
              rintro e wa ⟨rfl, hna⟩
              go_wp2_with fail
              have hn := New.trans hn hna
              try replace hz7 := Blk.new hz7 hna
              try replace hz8 := Blk.new hz8 hna
              refine hK.out _ _ (by first | exact hn | exact Upd.alloc hn _) (fun hn => ?_)
              clear hK K
              try simp only [Act.put, List.setIfInBounds_toArray, List.set_cons_zero, List.set_cons_succ]
              refine wpAnyH_ready (rs := [5]) (by kernel_rfl) (by simp) ?_
              refine AllReadyH.cons (o := { dst := some 8, op := Op.alloc 48, type := 0, pos := "law.go:22", after := #[], guard := none }) rfl (fun K hK => ?_) AllReadyH.nil
              go_simp
              refine absN hn ?_ hn.size
              intro g8 hg8 hf8
              rw [hg8] at hf8 ⊢
              refine allocStep hn ?_
              intro W2 hu hn hz8
              rw [hg8] at hz8
              try (have hne : g7 ≠ g8 := by have := Blk.lt hz7; omega)
              try replace hz7 := Blk.new hz7 hu
              clear hg8 hu
              refine hK.out _ _ (by first | exact hn | exact Upd.alloc hn _) (fun hn => ?_)
              clear hK K
              try simp only [Act.put, List.setIfInBounds_toArray, List.set_cons_zero, List.set_cons_succ]
              refine wpAnyH_ready (rs := [6]) (by kernel_rfl) (by simp) ?_
              refine AllReadyH.cons (o := { dst := none, op := Op.store 48 (Operand.tmp 7) (Operand.tmp 18), type := 0, pos := "law.go:22", after := #[{ on := 4, ground := Ground.data }, { on := 1, ground := Ground.data }, { on := 3, ground := Ground.chain }, { on := 0, ground := Ground.phase }, { on := 1, ground := Ground.phase }, { on := 2, ground := Ground.textOnly Departure.lateStores }, { on := 3, ground := Ground.textOnly Departure.lateStoresUnsure }, { on := 4, ground := Ground.phase }, { on := 5, ground := Ground.phase }], guard := none }) rfl (fun K hK => ?_) AllReadyH.nil
              have z0 := hz7.c0
              have z1 := hz7.c1
              have f0 := hz7.f 0
              have f1 := hz7.f 1
              go_simp
              refine storeStep hn hz7 hf7 ?_
              clear z0 z1 f0 f1
              intro W2 hn hz7' hO
              replace hz8 := hO _ _ _ _ (Ne.symm hne) hz8
              clear hO hz7
              have hz7 := hz7'
              refine hK.out _ _ (by first | exact hn | exact Upd.alloc hn _) (fun hn => ?_)
              clear hK K
              try simp only [Act.put, List.setIfInBounds_toArray, List.set_cons_zero, List.set_cons_succ]
              refine wpAnyH_ready (rs := [7]) (by kernel_rfl) (by simp) ?_
              refine AllReadyH.cons (o := { dst := none, op := Op.store 48 (Operand.tmp 8) (Operand.tmp 20), type := 0, pos := "law.go:22", after := #[{ on := 5, ground := Ground.data }, { on := 3, ground := Ground.data }, { on := 6, ground := Ground.chain }, { on := 0, ground := Ground.phase }, { on := 1, ground := Ground.phase }, { on := 2, ground := Ground.phase }, { on := 3, ground := Ground.phase }, { on := 4, ground := Ground.phase }, { on := 5, ground := Ground.phase }, { on := 6, ground := Ground.phase }], guard := none }) rfl (fun K hK => ?_) AllReadyH.nil
              have z0 := hz8.c0
              have z1 := hz8.c1
              have f0 := hz8.f 0
              have f1 := hz8.f 1
              go_simp
              refine storeStep hn hz8 hf8 ?_
              clear z0 z1 f0 f1
              intro W2 hn hz8' hO
              replace hz7 := hO _ _ _ _ hne hz7
              clear hO hz8
              have hz8 := hz8'
              refine hK.out _ _ (by first | exact hn | exact Upd.alloc hn _) (fun hn => ?_)
              clear hK K
              try simp only [Act.put, List.setIfInBounds_toArray, List.set_cons_zero, List.set_cons_succ]
              refine wpAnyH_done (by kernel_rfl) ?_ _
              refine NoPanic.normal ?_
              go_wp2_with fail
              go_meet
              exact ⟨g7, g8, rfl, rfl, hn, hz7, hz8⟩
            refine AllReadyH.cons (o := { dst := some 8, op := Op.alloc 48, type := 0, pos := "law.go:22", after := #[], guard := none }) rfl (fun K hK => ?_) AllReadyH.nil
            go_simp
            refine absN hn ?_ hn.size
            intro g8 hg8 hf8
            rw [hg8] at hf8 ⊢
            refine allocStep hn ?_
            intro W2 hu hn hz8
            rw [hg8] at hz8
            try (have hne : g7 ≠ g8 := by have := Blk.lt hz7; omega)
            try replace hz7 := Blk.new hz7 hu
            clear hg8 hu
            refine hK.out _ _ (by first | exact hn | exact Upd.alloc hn _) (fun hn => ?_)
            clear hK K
            try simp only [Act.put, List.setIfInBounds_toArray, List.set_cons_zero, List.set_cons_succ]
            refine wpAnyH_ready (rs := [3]) (by kernel_rfl) (by simp) ?_
            refine AllReadyH.cons (o := { dst := some 20, op := Op.call { callee := Callee.value (Operand.func 29), args := #[Operand.tmp 19], argTypes := #[46] }, type := 48, pos := "law.go:22", after := #[{ on := 2, ground := Ground.data }, { on := 1, ground := Ground.chain }], guard := none }) rfl (fun K hK => ?_) AllReadyH.nil
            go_simp
            refine (HOB.out _).mono ?_
            rintro e wa ⟨rfl, hna⟩
            go_wp2_with fail
            have hn := New.trans hn hna
            try replace hz7 := Blk.new hz7 hna
            try replace hz8 := Blk.new hz8 hna
            refine hK.out _ _ (by first | exact hn | exact Upd.alloc hn _) (fun hn => ?_)
            clear hK K
            try simp only [Act.put, List.setIfInBounds_toArray, List.set_cons_zero, List.set_cons_succ]
            refine wpAnyH_ready (rs := [6]) (by kernel_rfl) (by simp) ?_
            refine AllReadyH.cons (o := { dst := none, op := Op.store 48 (Operand.tmp 7) (Operand.tmp 18), type := 0, pos := "law.go:22", after := #[{ on := 4, ground := Ground.data }, { on := 1, ground := Ground.data }, { on := 3, ground := Ground.chain }, { on := 0, ground := Ground.phase }, { on := 1, ground := Ground.phase }, { on := 2, ground := Ground.textOnly Departure.lateStores }, { on := 3, ground := Ground.textOnly Departure.lateStoresUnsure }, { on := 4, ground := Ground.phase }, { on := 5, ground := Ground.phase }], guard := none }) rfl (fun K hK => ?_) AllReadyH.nil
            have z0 := hz7.c0
            have z1 := hz7.c1
            have f0 := hz7.f 0
            have f1 := hz7.f 1
            go_simp
            refine storeStep hn hz7 hf7 ?_
            clear z0 z1 f0 f1
            intro W2 hn hz7' hO
            replace hz8 := hO _ _ _ _ (Ne.symm hne) hz8
            clear hO hz7
            have hz7 := hz7'
            refine hK.out _ _ (by first | exact hn | exact Upd.alloc hn _) (fun hn => ?_)
            clear hK K
            try simp only [Act.put, List.setIfInBounds_toArray, List.set_cons_zero, List.set_cons_succ]
            refine wpAnyH_ready (rs := [7]) (by kernel_rfl) (by simp) ?_
            refine AllReadyH.cons (o := { dst := none, op := Op.store 48 (Operand.tmp 8) (Operand.tmp 20), type := 0, pos := "law.go:22", after := #[{ on := 5, ground := Ground.data }, { on := 3, ground := Ground.data }, { on := 6, ground := Ground.chain }, { on := 0, ground := Ground.phase }, { on := 1, ground := Ground.phase }, { on := 2, ground := Ground.phase }, { on := 3, ground := Ground.phase }, { on := 4, ground := Ground.phase }, { on := 5, ground := Ground.phase }, { on := 6, ground := Ground.phase }], guard := none }) rfl (fun K hK => ?_) AllReadyH.nil
            have z0 := hz8.c0
            have z1 := hz8.c1
            have f0 := hz8.f 0
            have f1 := hz8.f 1
            go_simp
            refine storeStep hn hz8 hf8 ?_
            clear z0 z1 f0 f1
            intro W2 hn hz8' hO
            replace hz7 := hO _ _ _ _ hne hz7
            clear hO hz8
            have hz8 := hz8'
            refine hK.out _ _ (by first | exact hn | exact Upd.alloc hn _) (fun hn => ?_)
            clear hK K
            try simp only [Act.put, List.setIfInBounds_toArray, List.set_cons_zero, List.set_cons_succ]
            refine wpAnyH_done (by kernel_rfl) ?_ _
            refine NoPanic.normal ?_
            go_wp2_with fail
            go_meet
            exact ⟨g7, g8, rfl, rfl, hn, hz7, hz8⟩
          refine AllReadyH.cons (o := { dst := some 8, op := Op.alloc 48, type := 0, pos := "law.go:22", after := #[], guard := none }) rfl (fun K hK => ?_) AllReadyH.nil
          go_simp
          refine absN hn ?_ hn.size
          intro g8 hg8 hf8
          rw [hg8] at hf8 ⊢
          refine allocStep hn ?_
          intro W2 hu hn hz8
          rw [hg8] at hz8
          try (have hne : g7 ≠ g8 := by have := Blk.lt hz7; omega)
          try replace hz7 := Blk.new hz7 hu
          clear hg8 hu
          refine hK.out _ _ (by first | exact hn | exact Upd.alloc hn _) (fun hn => ?_)
          clear hK K
          try simp only [Act.put, List.setIfInBounds_toArray, List.set_cons_zero, List.set_cons_succ]
          refine wpAnyH_ready (rs := [1]) (by kernel_rfl) (by simp) ?_
          refine AllReadyH.cons (o := { dst := some 18, op := Op.call { callee := Callee.value (Operand.func 29), args := #[Operand.tmp 17], argTypes := #[46] }, type := 48, pos := "law.go:22", after := #[{ on := 0, ground := Ground.data }], guard := none }) rfl (fun K hK => ?_) AllReadyH.nil
          go_simp
          refine (HOA.out _).mono ?_
          rintro e wa ⟨rfl, hna⟩
          go_wp2_with fail
          have hn := New.trans hn hna
          try replace hz7 := Blk.new hz7 hna
          try replace hz8 := Blk.new hz8 hna
          refine hK.out _ _ (by first | exact hn | exact Upd.alloc hn _) (fun hn => ?_)
          clear hK K
          try simp only [Act.put, List.setIfInBounds_toArray, List.set_cons_zero, List.set_cons_succ]
          refine wpAnyH_ready (rs := [3]) (by kernel_rfl) (by simp) ?_
          refine AllReadyH.cons (o := { dst := some 20, op := Op.call { callee := Callee.value (Operand.func 29), args := #[Operand.tmp 19], argTypes := #[46] }, type := 48, pos := "law.go:22", after := #[{ on := 2, ground := Ground.data }, { on := 1, ground := Ground.chain }], guard := none }) rfl (fun K hK => ?_) AllReadyH.nil
          go_simp
          refine (HOB.out _).mono ?_
          rintro e wa ⟨rfl, hna⟩
          go_wp2_with fail
          have hn := New.trans hn hna
          try replace hz7 := Blk.new hz7 hna
          try replace hz8 := Blk.new hz8 hna
          refine hK.out _ _ (by first | exact hn | exact Upd.alloc hn _) (fun hn => ?_)
          clear hK K
          try simp only [Act.put, List.setIfInBounds_toArray, List.set_cons_zero, List.set_cons_succ]
          refine wpAnyH_ready (rs := [6]) (by kernel_rfl) (by simp) ?_
          refine AllReadyH.cons (o := { dst := none, op := Op.store 48 (Operand.tmp 7) (Operand.tmp 18), type := 0, pos := "law.go:22", after := #[{ on := 4, ground := Ground.data }, { on := 1, ground := Ground.data }, { on := 3, ground := Ground.chain }, { on := 0, ground := Ground.phase }, { on := 1, ground := Ground.phase }, { on := 2, ground := Ground.textOnly Departure.lateStores }, { on := 3, ground := Ground.textOnly Departure.lateStoresUnsure }, { on := 4, ground := Ground.phase }, { on := 5, ground := Ground.phase }], guard := none }) rfl (fun K hK => ?_) AllReadyH.nil
          have z0 := hz7.c0
          have z1 := hz7.c1
          have f0 := hz7.f 0
          have f1 := hz7.f 1
          go_simp
          refine storeStep hn hz7 hf7 ?_
          clear z0 z1 f0 f1
          intro W2 hn hz7' hO
          replace hz8 := hO _ _ _ _ (Ne.symm hne) hz8
          clear hO hz7
          have hz7 := hz7'
          refine hK.out _ _ (by first | exact hn | exact Upd.alloc hn _) (fun hn => ?_)
          clear hK K
          try simp only [Act.put, List.setIfInBounds_toArray, List.set_cons_zero, List.set_cons_succ]
          refine wpAnyH_ready (rs := [7]) (by kernel_rfl) (by simp) ?_
          refine AllReadyH.cons (o := { dst := none, op := Op.store 48 (Operand.tmp 8) (Operand.tmp 20), type := 0, pos := "law.go:22", after := #[{ on := 5, ground := Ground.data }, { on := 3, ground := Ground.data }, { on := 6, ground := Ground.chain }, { on := 0, ground := Ground.phase }, { on := 1, ground := Ground.phase }, { on := 2, ground := Ground.phase }, { on := 3, ground := Ground.phase }, { on := 4, ground := Ground.phase }, { on := 5, ground := Ground.phase }, { on := 6, ground := Ground.phase }], guard := none }) rfl (fun K hK => ?_) AllReadyH.nil
          have z0 := hz8.c0
          have z1 := hz8.c1
          have f0 := hz8.f 0
          have f1 := hz8.f 1
          go_simp
          refine storeStep hn hz8 hf8 ?_
          clear z0 z1 f0 f1
          intro W2 hn hz8' hO
          replace hz7 := hO _ _ _ _ hne hz7
          clear hO hz8
          have hz8 := hz8'
          refine hK.out _ _ (by first | exact hn | exact Upd.alloc hn _) (fun hn => ?_)
          clear hK K
          try simp only [Act.put, List.setIfInBounds_toArray, List.set_cons_zero, List.set_cons_succ]
          refine wpAnyH_done (by kernel_rfl) ?_ _
          refine NoPanic.normal ?_
          go_wp2_with fail
          go_meet
          exact ⟨g7, g8, rfl, rfl, hn, hz7, hz8⟩
        refine AllReadyH.cons (o := { dst := some 8, op := Op.alloc 48, type := 0, pos := "law.go:22", after := #[], guard := none }) rfl (fun K hK => ?_) AllReadyH.nil
        go_simp
        refine absN hn ?_ hn.size
        intro g8 hg8 hf8
        rw [hg8] at hf8 ⊢
        refine allocStep hn ?_
        intro W2 hu hn hz8
        rw [hg8] at hz8
        try (have hne : g7 ≠ g8 := by have := Blk.lt hz7; omega)
        try replace hz7 := Blk.new hz7 hu
        clear hg8 hu
        refine hK.out _ _ (by first | exact hn | exact Upd.alloc hn _) (fun hn => ?_)
        clear hK K
        try simp only [Act.put, List.setIfInBounds_toArray, List.set_cons_zero, List.set_cons_succ]
        refine wpAnyH_ready (rs := [1, 4]) (by kernel_rfl) (by simp) ?_
        refine AllReadyH.cons (o := { dst := some 18, op := Op.call { callee := Callee.value (Operand.func 29), args := #[Operand.tmp 17], argTypes := #[46] }, type := 48, pos := "law.go:22", after := #[{ on := 0, ground := Ground.data }], guard := none }) rfl (fun K hK => ?_) ?_
        · skip
          go_simp
          refine (HOA.out _).mono ?_
          rintro e wa ⟨rfl, hna⟩
          go_wp2_with fail
          have hn := New.trans hn hna
          try replace hz7 := Blk.new hz7 hna
          try replace hz8 := Blk.new hz8 hna
          refine hK.out _ _ (by first | exact hn | exact Upd.alloc hn _) (fun hn => ?_)
          clear hK K
          try simp only [Act.put, List.setIfInBounds_toArray, List.set_cons_zero, List.set_cons_succ]
          refine wpAnyH_ready (rs := [3, 4]) (by kernel_rfl) (by simp) ?_
          refine AllReadyH.cons (o := { dst := some 20, op := Op.call { callee := Callee.value (Operand.func 29), args := #[Operand.tmp 19], argTypes := #[46] }, type := 48, pos := "law.go:22", after := #[{ on := 2, ground := Ground.data }, { on := 1, ground := Ground.chain }], guard := none }) rfl (fun K hK => ?_) ?_
          · skip
            go_simp
            refine (HOB.out _).mono ?_
            rintro e wa ⟨rfl, hna⟩
            go_wp2_with fail
            have hn := New.trans hn hna
            try replace hz7 := Blk.new hz7 hna
            try replace hz8 := Blk.new hz8 hna
            refine hK.out _ _ (by first | exact hn | exact Upd.alloc hn _) (fun hn => ?_)
            clear hK K
            try simp only [Act.put, List.setIfInBounds_toArray, List.set_cons_zero, List.set_cons_succ]
            refine wpAnyH_ready (rs := [4]) (by kernel_rfl) (by simp) ?_
            refine AllReadyH.cons (o := { dst := some 7, op := Op.alloc 48, type := 0, pos := "law.go:22", after := #[], guard := none }) rfl (fun K hK => ?_) AllReadyH.nil
            go_simp
            refine absN hn ?_ hn.size
            intro g7 hg7 hf7
            rw [hg7] at hf7 ⊢
            refine allocStep hn ?_
            intro W2 hu hn hz7
            rw [hg7] at hz7
            try (have hne : g7 ≠ g8 := by have := Blk.lt hz8; omega)
            try replace hz8 := Blk.new hz8 hu
            clear hg7 hu
            refine hK.out _ _ (by first | exact hn | exact Upd.alloc hn _) (fun hn => ?_)
            clear hK K
            try simp only [Act.put, List.setIfInBounds_toArray, List.set_cons_zero, List.set_cons_succ]
            refine wpAnyH_ready (rs := [6]) (by kernel_rfl) (by simp) ?_
            refine AllReadyH.cons (o := { dst := none, op := Op.store 48 (Operand.tmp 7) (Operand.tmp 18), type := 0, pos := "law.go:22", after := #[{ on := 4, ground := Ground.data }, { on := 1, ground := Ground.data }, { on := 3, ground := Ground.chain }, { on := 0, ground := Ground.phase }, { on := 1, ground := Ground.phase }, { on := 2, ground := Ground.textOnly Departure.lateStores }, { on := 3, ground := Ground.textOnly Departure.lateStoresUnsure }, { on := 4, ground := Ground.phase }, { on := 5, ground := Ground.phase }], guard := none }) rfl (fun K hK => ?_) AllReadyH.nil
            have z0 := hz7.c0
            have z1 := hz7.c1
            have f0 := hz7.f 0
            have f1 := hz7.f 1
            go_simp
            refine storeStep hn hz7 hf7 ?_
            clear z0 z1 f0 f1
            intro W2 hn hz7' hO
            replace hz8 := hO _ _ _ _ (Ne.symm hne) hz8
            clear hO hz7
            have hz7 := hz7'
            refine hK.out _ _ (by first | exact hn | exact Upd.alloc hn _) (fun hn => ?_)
            clear hK K
            try simp only [Act.put, List.setIfInBounds_toArray, List.set_cons_zero, List.set_cons_succ]
            refine wpAnyH_ready (rs := [7]) (by kernel_rfl) (by simp) ?_
            refine AllReadyH.cons (o := { dst := none, op := Op.store 48 (Operand.tmp 8) (Operand.tmp 20), type := 0, pos := "law.go:22", after := #[{ on := 5, ground := Ground.data }, { on := 3, ground := Ground.data }, { on := 6, ground := Ground.chain }, { on := 0, ground := Ground.phase }, { on := 1, ground := Ground.phase }, { on := 2, ground := Ground.phase }, { on := 3, ground := Ground.phase }, { on := 4, ground := Ground.phase }, { on := 5, ground := Ground.phase }, { on := 6, ground := Ground.phase }], guard := none }) rfl (fun K hK => ?_) AllReadyH.nil
            have z0 := hz8.c0
            have z1 := hz8.c1
            have f0 := hz8.f 0
            have f1 := hz8.f 1
            go_simp
            refine storeStep hn hz8 hf8 ?_
            clear z0 z1 f0 f1
            intro W2 hn hz8' hO
            replace hz7 := hO _ _ _ _ hne hz7
            clear hO hz8
            have hz8 := hz8'
            refine hK.out _ _ (by first | exact hn | exact Upd.alloc hn _) (fun hn => ?_)
            clear hK K
            try simp only [Act.put, List.setIfInBounds_toArray, List.set_cons_zero, List.set_cons_succ]
            refine wpAnyH_done (by kernel_rfl) ?_ _
            refine NoPanic.normal ?_
            go_wp2_with fail
            go_meet
            exact ⟨g7, g8, rfl, rfl, hn, hz7, hz8⟩
          refine AllReadyH.cons (o := { dst := some 7, op := Op.alloc 48, type := 0, pos := "law.go:22", after := #[], guard := none }) rfl (fun K hK => ?_) AllReadyH.nil
          go_simp
          refine absN hn ?_ hn.size
          intro g7 hg7 hf7
          rw [hg7] at hf7 ⊢
          refine allocStep hn ?_
          intro W2 hu hn hz7
          rw [hg7] at hz7
          try (have hne : g7 ≠ g8 := by have := Blk.lt hz8; omega)
          try replace hz8 := Blk.new hz8 hu
          clear hg7 hu
          refine hK.out _ _ (by first | exact hn | exact Upd.alloc hn _) (fun hn => ?_)
          clear hK K
          try simp only [Act.put, List.setIfInBounds_toArray, List.set_cons_zero, List.set_cons_succ]
          refine wpAnyH_ready (rs := [3]) (by kernel_rfl) (by simp) ?_
          refine AllReadyH.cons (o := { dst := some 20, op := Op.call { callee := Callee.value (Operand.func 29), args := #[Operand.tmp 19], argTypes := #[46] }, type := 48, pos := "law.go:22", after := #[{ on := 2, ground := Ground.data }, { on := 1, ground := Ground.chain }], guard := none }) rfl (fun K hK => ?_) AllReadyH.nil
          go_simp
          refine (HOB.out _).mono ?_
          rintro e wa ⟨rfl, hna⟩
          go_wp2_with fail
          have hn := New.trans hn hna
          try replace hz7 := Blk.new hz7 hna
          try replace hz8 := Blk.new hz8 hna
          refine hK.out _ _ (by first | exact hn | exact Upd.alloc hn _) (fun hn => ?_)
          clear hK K
          try simp only [Act.put, List.setIfInBounds_toArray, List.set_cons_zero, List.set_cons_succ]
          refine wpAnyH_ready (rs := [6]) (by kernel_rfl) (by simp) ?_
          refine AllReadyH.cons (o := { dst := none, op := Op.store 48 (Operand.tmp 7) (Operand.tmp 18), type := 0, pos := "law.go:22", after := #[{ on := 4, ground := Ground.data }, { on := 1, ground := Ground.data }, { on := 3, ground := Ground.chain }, { on := 0, ground := Ground.phase }, { on := 1, ground := Ground.phase }, { on := 2, ground := Ground.textOnly Departure.lateStores }, { on := 3, ground := Ground.textOnly Departure.lateStoresUnsure }, { on := 4, ground := Ground.phase }, { on := 5, ground := Ground.phase }], guard := none }) rfl (fun K hK => ?_) AllReadyH.nil
          have z0 := hz7.c0
          have z1 := hz7.c1
          have f0 := hz7.f 0
          have f1 := hz7.f 1
          go_simp
          refine storeStep hn hz7 hf7 ?_
          clear z0 z1 f0 f1
          intro W2 hn hz7' hO
          replace hz8 := hO _ _ _ _ (Ne.symm hne) hz8
          clear hO hz7
          have hz7 := hz7'
          refine hK.out _ _ (by first | exact hn | exact Upd.alloc hn _) (fun hn => ?_)
          clear hK K
          try simp only [Act.put, List.setIfInBounds_toArray, List.set_cons_zero, List.set_cons_succ]
          refine wpAnyH_ready (rs := [7]) (by kernel_rfl) (by simp) ?_
          refine AllReadyH.cons (o := { dst := none, op := Op.store 48 (Operand.tmp 8) (Operand.tmp 20), type := 0, pos := "law.go:22", after := #[{ on := 5, ground := Ground.data }, { on := 3, ground := Ground.data }, { on := 6, ground := Ground.chain }, { on := 0, ground := Ground.phase }, { on := 1, ground := Ground.phase }, { on := 2, ground := Ground.phase }, { on := 3, ground := Ground.phase }, { on := 4, ground := Ground.phase }, { on := 5, ground := Ground.phase }, { on := 6, ground := Ground.phase }], guard := none }) rfl (fun K hK => ?_) AllReadyH.nil
          have z0 := hz8.c0
          have z1 := hz8.c1
          have f0 := hz8.f 0
          have f1 := hz8.f 1
          go_simp
          refine storeStep hn hz8 hf8 ?_
          clear z0 z1 f0 f1
          intro W2 hn hz8' hO
          replace hz7 := hO _ _ _ _ hne hz7
          clear hO hz8
          have hz8 := hz8'
          refine hK.out _ _ (by first | exact hn | exact Upd.alloc hn _) (fun hn => ?_)
          clear hK K
          try simp only [Act.put, List.setIfInBounds_toArray, List.set_cons_zero, List.set_cons_succ]
          refine wpAnyH_done (by kernel_rfl) ?_ _
          refine NoPanic.normal ?_
          go_wp2_with fail
          go_meet
          exact ⟨g7, g8, rfl, rfl, hn, hz7, hz8⟩
        refine AllReadyH.cons (o := { dst := some 7, op := Op.alloc 48, type := 0, pos := "law.go:22", after := #[], guard := none }) rfl (fun K hK => ?_) AllReadyH.nil
        go_simp
        refine absN hn ?_ hn.size
        intro g7 hg7 hf7
        rw [hg7] at hf7 ⊢
        refine allocStep hn ?_
        intro W2 hu hn hz7
        rw [hg7] at hz7
        try (have hne : g7 ≠ g8 := by have := Blk.lt hz8; omega)
        try replace hz8 := Blk.new hz8 hu
        clear hg7 hu
        refine hK.out _ _ (by first | exact hn | exact Upd.alloc hn _) (fun hn => ?_)
        clear hK K
        try simp only [Act.put, List.setIfInBounds_toArray, List.set_cons_zero, List.set_cons_succ]
        refine wpAnyH_ready (rs := [1]) (by kernel_rfl) (by simp) ?_
        refine AllReadyH.cons (o := { dst := some 18, op := Op.call { callee := Callee.value (Operand.func 29), args := #[Operand.tmp 17], argTypes := #[46] }, type := 48, pos := "law.go:22", after := #[{ on := 0, ground := Ground.data }], guard := none }) rfl (fun K hK => ?_) AllReadyH.nil
        go_simp
        refine (HOA.out _).mono ?_
        rintro e wa ⟨rfl, hna⟩
        go_wp2_with fail
        have hn := New.trans hn hna
        try replace hz7 := Blk.new hz7 hna
        try replace hz8 := Blk.new hz8 hna
        refine hK.out _ _ (by first | exact hn | exact Upd.alloc hn _) (fun hn => ?_)
        clear hK K
        try simp only [Act.put, List.setIfInBounds_toArray, List.set_cons_zero, List.set_cons_succ]
        refine wpAnyH_ready (rs := [3]) (by kernel_rfl) (by simp) ?_
        refine AllReadyH.cons (o := { dst := some 20, op := Op.call { callee := Callee.value (Operand.func 29), args := #[Operand.tmp 19], argTypes := #[46] }, type := 48, pos := "law.go:22", after := #[{ on := 2, ground := Ground.data }, { on := 1, ground := Ground.chain }], guard := none }) rfl (fun K hK => ?_) AllReadyH.nil
        go_simp
        refine (HOB.out _).mono ?_
        rintro e wa ⟨rfl, hna⟩
        go_wp2_with fail
        have hn := New.trans hn hna
        try replace hz7 := Blk.new hz7 hna
        try replace hz8 := Blk.new hz8 hna
        refine hK.out _ _ (by first | exact hn | exact Upd.alloc hn _) (fun hn => ?_)
        clear hK K
        try simp only [Act.put, List.setIfInBounds_toArray, List.set_cons_zero, List.set_cons_succ]
        refine wpAnyH_ready (rs := [6]) (by kernel_rfl) (by simp) ?_
        refine AllReadyH.cons (o := { dst := none, op := Op.store 48 (Operand.tmp 7) (Operand.tmp 18), type := 0, pos := "law.go:22", after := #[{ on := 4, ground := Ground.data }, { on := 1, ground := Ground.data }, { on := 3, ground := Ground.chain }, { on := 0, ground := Ground.phase }, { on := 1, ground := Ground.phase }, { on := 2, ground := Ground.textOnly Departure.lateStores }, { on := 3, ground := Ground.textOnly Departure.lateStoresUnsure }, { on := 4, ground := Ground.phase }, { on := 5, ground := Ground.phase }], guard := none }) rfl (fun K hK => ?_) AllReadyH.nil
        have z0 := hz7.c0
        have z1 := hz7.c1
        have f0 := hz7.f 0
        have f1 := hz7.f 1
        go_simp
        refine storeStep hn hz7 hf7 ?_
        clear z0 z1 f0 f1
        intro W2 hn hz7' hO
        replace hz8 := hO _ _ _ _ (Ne.symm hne) hz8
        clear hO hz7
        have hz7 := hz7'
        refine hK.out _ _ (by first | exact hn | exact Upd.alloc hn _) (fun hn => ?_)
        clear hK K
        try simp only [Act.put, List.setIfInBounds_toArray, List.set_cons_zero, List.set_cons_succ]
        refine wpAnyH_ready (rs := [7]) (by kernel_rfl) (by simp) ?_
        refine AllReadyH.cons (o := { dst := none, op := Op.store 48 (Operand.tmp 8) (Operand.tmp 20), type := 0, pos := "law.go:22", after := #[{ on := 5, ground := Ground.data }, { on := 3, ground := Ground.data }, { on := 6, ground := Ground.chain }, { on := 0, ground := Ground.phase }, { on := 1, ground := Ground.phase }, { on := 2, ground := Ground.phase }, { on := 3, ground := Ground.phase }, { on := 4, ground := Ground.phase }, { on := 5, ground := Ground.phase }, { on := 6, ground := Ground.phase }], guard := none }) rfl (fun K hK => ?_) AllReadyH.nil
        have z0 := hz8.c0
        have z1 := hz8.c1
        have f0 := hz8.f 0
        have f1 := hz8.f 1
        go_simp
        refine storeStep hn hz8 hf8 ?_
        clear z0 z1 f0 f1
        intro W2 hn hz8' hO
        replace hz7 := hO _ _ _ _ hne hz7
        clear hO hz8
        have hz8 := hz8'
        refine hK.out _ _ (by first | exact hn | exact Upd.alloc hn _) (fun hn => ?_)
        clear hK K
        try simp only [Act.put, List.setIfInBounds_toArray, List.set_cons_zero, List.set_cons_succ]
        refine wpAnyH_done (by kernel_rfl) ?_ _
        refine NoPanic.normal ?_
        go_wp2_with fail
        go_meet
        exact ⟨g7, g8, rfl, rfl, hn, hz7, hz8⟩
      case rest =>
        obtain ⟨g7, g8, rfl, rfl, hw4, hb7, hb8⟩ := hcut
        obtain ⟨w4, rfl⟩ : ∃ w4, w4 = wc := ⟨_, rfl⟩
        have z0 := hid hb7.c0
        have z1 := hid hb7.c1
        have z2 := hid hb8.c0
        have z3 := hid hb8.c1
        have y0 := hid (hw4.cell k0.out (fun h => h))
        have y1 := hid (hw4.cell k1.out (fun h => h))
        have y2 := hid (hw4.cell k2.out (fun h => h))
        have y3 := hid (hw4.cell k3.out (fun h => h))
        have HALL := hid (New.trans h01.out (New.trans HWC.out hw4))
        have HHA := hid (fun w => has_any an ax n w)
        have HHR : Hid (∀ w, Calls Try.prog 31 #[.agg #[.int .i64 an, .int .i64 ax], .int .i64 n] w fun e w' => e = .returned (.bool (has an ax n)) ∧ New w w') := fun w => (rhas_any an ax n w).mono (by rintro e w' ⟨rfl, rfl⟩; exact ⟨rfl, (Upd.refl _ _).alloc _⟩)
        have HAA := hid (fun w => and_any an ax bn bx w (by have := HIT.out; unfold right at this; omega) (by have := HIT.out; unfold right at this; omega) (by have := HRT.out; unfold right at this; omega) (by have := HRT.out; unfold right at this; omega) (by have := HIT.out; unfold right at this; omega) (by have := HRT.out; unfold right at this; omega))
        have HAR := hid (fun w => rand_any an ax bn bx w (by have := HIT.out; unfold right at this; omega) (by have := HIT.out; unfold right at this; omega) (by have := HRT.out; unfold right at this; omega) (by have := HRT.out; unfold right at this; omega) (by have := HIT.out; unfold right at this; omega) (by have := HRT.out; unfold right at this; omega))
        have HTA := hid (fun w => Times_any an ax n w (by have := HIT.out; unfold right at this; omega) (by have := HIT.out; unfold right at this; omega) (by have := HIT.out; unfold right at this; omega) i9 n2)
        have HTR := hid (fun w => rTimes_any an ax n w (by have := HIT.out; unfold right at this; omega) (by have := HIT.out; unfold right at this; omega) (by have := HIT.out; unfold right at this; omega) i9 n2)
        generalize has an ax n = ch at *
        generalize an + bn = s0 at *
        generalize most ax bx = s1 at *
        generalize tm n an = t0 at *
        generalize tm n ax = t1 at *
        have HOS := hid (own_any s0 s1)
        have HOT := hid (own_any t0 t1)
        have HAW := hid awake2_any
        clear hb7 hb8 hw4 k0 k1 k2 k3 HWC h01
        go_upto_region 4 with fail
        have hn : New w4 w4.drew := (Upd.refl _ _).drew
        refine wp_region_noPanic ?_
        refine wp_region_held_drew (S := (New w4)) (by kernel_rfl) (by first | exact hn | exact (Upd.refl _ _).drew | exact Upd.drew (by assumption)) (fun hn => ?_)
        refine wpAnyH_take (i := 0) (oi := { dst := some 21, op := Op.load 48 (Operand.tmp 7), type := 48, pos := "law.go:23", after := #[], guard := none }) (v := ?v5x1) rfl (by kernel_rfl) (by kernel_rfl) (by kernel_rfl) (fun _ _ _ h => h) (Or.inl ⟨by rfl, ?y5x1⟩) hn ?r5x1
        case y5x1 => (intro wS hS; have c0 := hS.cell z0.out (fun h => h); have c1 := hS.cell z1.out (fun h => h); (try go_simp); (try with_reducible rfl))
        try simp only [Act.put, List.setIfInBounds_toArray, List.set_cons_zero, List.set_cons_succ]
        refine wpAnyH_take (i := 1) (oi := { dst := some 22, op := Op.move (Operand.tmp 2), type := 3, pos := "law.go:23", after := #[], guard := none }) (v := ?v5x2) rfl (by kernel_rfl) (by kernel_rfl) (by kernel_rfl) (fun _ _ _ h => h) (Or.inl ⟨by rfl, ?y5x2⟩) hn ?r5x2
        case y5x2 => (intro wS hS; (try go_simp); (try with_reducible rfl))
        try simp only [Act.put, List.setIfInBounds_toArray, List.set_cons_zero, List.set_cons_succ]
        refine wpAnyH_take (i := 3) (oi := { dst := some 24, op := Op.load 46 (Operand.tmp 3), type := 46, pos := "law.go:23", after := #[], guard := none }) (v := ?v5x3) rfl (by kernel_rfl) (by kernel_rfl) (by kernel_rfl) (fun _ _ _ h => h) (Or.inl ⟨by rfl, ?y5x3⟩) hn ?r5x3
        case y5x3 => (intro wS hS; have c0 := hS.cell y0.out (fun h => h); have c1 := hS.cell y1.out (fun h => h); (try go_simp); (try with_reducible rfl))
        try simp only [Act.put, List.setIfInBounds_toArray, List.set_cons_zero, List.set_cons_succ]
        refine wpAnyH_take (i := 4) (oi := { dst := some 25, op := Op.move (Operand.tmp 2), type := 3, pos := "law.go:23", after := #[], guard := none }) (v := ?v5x4) rfl (by kernel_rfl) (by kernel_rfl) (by kernel_rfl) (fun _ _ _ h => h) (Or.inl ⟨by rfl, ?y5x4⟩) hn ?r5x4
        case y5x4 => (intro wS hS; (try go_simp); (try with_reducible rfl))
        try simp only [Act.put, List.setIfInBounds_toArray, List.set_cons_zero, List.set_cons_succ]
        refine wpAnyH_ready (rs := [2]) (by kernel_rfl) (by simp) ?_
        refine AllReadyH.cons (o := { dst := some 23, op := Op.call { callee := Callee.value (Operand.func 30), args := #[Operand.tmp 21, Operand.tmp 22], argTypes := #[48, 3] }, type := 4, pos := "law.go:23", after := #[{ on := 0, ground := Ground.data }, { on := 1, ground := Ground.data }], guard := none }) rfl (fun K hK => ?_) AllReadyH.nil
        go_simp
        refine (HHA.out _).mono ?_
        rintro e wa ⟨rfl, hna⟩
        go_wp2_with fail
        have hn := New.trans hn hna
        refine hK.out _ _ (by first | exact hn | exact Upd.alloc hn _) (fun hn => ?_)
        clear hK K
        try simp only [Act.put, List.setIfInBounds_toArray, List.set_cons_zero, List.set_cons_succ]
        refine wpAnyH_ready (rs := [5]) (by kernel_rfl) (by simp) ?_
        refine AllReadyH.cons (o := { dst := some 26, op := Op.call { callee := Callee.value (Operand.func 31), args := #[Operand.tmp 24, Operand.tmp 25], argTypes := #[46, 3] }, type := 4, pos := "law.go:23", after := #[{ on := 3, ground := Ground.data }, { on := 4, ground := Ground.data }, { on := 2, ground := Ground.chain }], guard := none }) rfl (fun K hK => ?_) AllReadyH.nil
        go_simp
        refine (HHR.out _).mono ?_
        rintro e wa ⟨rfl, hna⟩
        go_wp2_with fail
        have hn := New.trans hn hna
        refine hK.out _ _ (by first | exact hn | exact Upd.alloc hn _) (fun hn => ?_)
        clear hK K
        try simp only [Act.put, List.setIfInBounds_toArray, List.set_cons_zero, List.set_cons_succ]
        refine wpAnyH_take (i := 6) (oi := { dst := some 27, op := Op.binOp BinOp.eql 4 (Operand.tmp 23) (Operand.tmp 26) 4, type := 4, pos := "law.go:23", after := #[{ on := 2, ground := Ground.data }, { on := 5, ground := Ground.data }], guard := none }) (v := ?v5x5) rfl (by kernel_rfl) (by kernel_rfl) (by kernel_rfl) (fun _ _ _ h => h) (Or.inl ⟨by rfl, ?y5x5⟩) hn ?r5x5
        case y5x5 => (intro wS hS; (try go_simp); (try with_reducible rfl))
        try simp only [Act.put, List.setIfInBounds_toArray, List.set_cons_zero, List.set_cons_succ]
        refine wpAnyH_take (i := 7) (oi := { dst := some 28, op := Op.move (Operand.tmp 27), type := 4, pos := "law.go:23", after := #[{ on := 6, ground := Ground.data }, { on := 5, ground := Ground.chain }], guard := none }) (v := ?v5x6) rfl (by kernel_rfl) (by kernel_rfl) (by kernel_rfl) (fun _ _ _ h => h) (Or.inl ⟨by rfl, ?y5x6⟩) hn ?r5x6
        case y5x6 => (intro wS hS; (try go_simp); (try with_reducible rfl))
        try simp only [Act.put, List.setIfInBounds_toArray, List.set_cons_zero, List.set_cons_succ]
        refine wpAnyH_take (i := 8) (oi := { dst := some 29, op := Op.load 48 (Operand.tmp 7), type := 48, pos := "law.go:23", after := #[{ on := 7, ground := Ground.guard }], guard := some (7, true) }) (v := ?v5x7) rfl (by kernel_rfl) (by kernel_rfl) (by kernel_rfl) (fun _ _ _ h => h) (Or.inl ⟨by rfl, ?y5x7⟩) hn ?r5x7
        case y5x7 => (intro wS hS; have c0 := hS.cell z0.out (fun h => h); have c1 := hS.cell z1.out (fun h => h); (try go_simp); (try with_reducible rfl))
        try simp only [Act.put, List.setIfInBounds_toArray, List.set_cons_zero, List.set_cons_succ]
        refine wpAnyH_take (i := 9) (oi := { dst := some 30, op := Op.load 48 (Operand.tmp 8), type := 48, pos := "law.go:23", after := #[{ on := 7, ground := Ground.guard }], guard := some (7, true) }) (v := ?v5x8) rfl (by kernel_rfl) (by kernel_rfl) (by kernel_rfl) (fun _ _ _ h => h) (Or.inl ⟨by rfl, ?y5x8⟩) hn ?r5x8
        case y5x8 => (intro wS hS; have c0 := hS.cell z2.out (fun h => h); have c1 := hS.cell z3.out (fun h => h); (try go_simp); (try with_reducible rfl))
        try simp only [Act.put, List.setIfInBounds_toArray, List.set_cons_zero, List.set_cons_succ]
        refine wpAnyH_take (i := 11) (oi := { dst := some 32, op := Op.load 46 (Operand.tmp 3), type := 46, pos := "law.go:23", after := #[{ on := 7, ground := Ground.guard }], guard := some (7, true) }) (v := ?v5x9) rfl (by kernel_rfl) (by kernel_rfl) (by kernel_rfl) (fun _ _ _ h => h) (Or.inl ⟨by rfl, ?y5x9⟩) hn ?r5x9
        case y5x9 => (intro wS hS; have c0 := hS.cell y0.out (fun h => h); have c1 := hS.cell y1.out (fun h => h); (try go_simp); (try with_reducible rfl))
        try simp only [Act.put, List.setIfInBounds_toArray, List.set_cons_zero, List.set_cons_succ]
        refine wpAnyH_take (i := 12) (oi := { dst := some 33, op := Op.load 46 (Operand.tmp 4), type := 46, pos := "law.go:23", after := #[{ on := 7, ground := Ground.guard }], guard := some (7, true) }) (v := ?v5x10) rfl (by kernel_rfl) (by kernel_rfl) (by kernel_rfl) (fun _ _ _ h => h) (Or.inl ⟨by rfl, ?y5x10⟩) hn ?r5x10
        case y5x10 => (intro wS hS; have c0 := hS.cell y2.out (fun h => h); have c1 := hS.cell y3.out (fun h => h); (try go_simp); (try with_reducible rfl))
        try simp only [Act.put, List.setIfInBounds_toArray, List.set_cons_zero, List.set_cons_succ]
        refine wpAnyH_ready (rs := [10]) (by kernel_rfl) (by simp) ?_
        refine AllReadyH.cons (o := { dst := some 31, op := Op.call { callee := Callee.value (Operand.func 32), args := #[Operand.tmp 29, Operand.tmp 30], argTypes := #[48, 48] }, type := 48, pos := "law.go:23", after := #[{ on := 8, ground := Ground.data }, { on := 9, ground := Ground.data }, { on := 7, ground := Ground.chain }, { on := 7, ground := Ground.guard }], guard := some (7, true) }) rfl (fun K hK => ?_) AllReadyH.nil
        go_simp
        refine (HAA.out _).mono ?_
        rintro e wa ⟨rfl, hna⟩
        go_wp2_with fail
        have hn := New.trans hn hna
        refine hK.out _ _ (by first | exact hn | exact Upd.alloc hn _) (fun hn => ?_)
        clear hK K
        try simp only [Act.put, List.setIfInBounds_toArray, List.set_cons_zero, List.set_cons_succ]
        refine wpAnyH_ready (rs := [13]) (by kernel_rfl) (by simp) ?_
        refine AllReadyH.cons (o := { dst := some 34, op := Op.call { callee := Callee.value (Operand.func 33), args := #[Operand.tmp 32, Operand.tmp 33], argTypes := #[46, 46] }, type := 46, pos := "law.go:23", after := #[{ on := 11, ground := Ground.data }, { on := 12, ground := Ground.data }, { on := 10, ground := Ground.chain }, { on := 7, ground := Ground.guard }], guard := some (7, true) }) rfl (fun K hK => ?_) AllReadyH.nil
        go_simp
        refine (HAR.out _).mono ?_
        rintro e wa ⟨rfl, hna⟩
        go_wp2_with fail
        have hn := New.trans hn hna
        refine hK.out _ _ (by first | exact hn | exact Upd.alloc hn _) (fun hn => ?_)
        clear hK K
        try simp only [Act.put, List.setIfInBounds_toArray, List.set_cons_zero, List.set_cons_succ]
        refine wpAnyH_ready (rs := [14]) (by kernel_rfl) (by simp) ?_
        refine AllReadyH.cons (o := { dst := some 35, op := Op.call { callee := Callee.value (Operand.func 29), args := #[Operand.tmp 34], argTypes := #[46] }, type := 48, pos := "law.go:23", after := #[{ on := 13, ground := Ground.data }, { on := 13, ground := Ground.chain }, { on := 7, ground := Ground.guard }], guard := some (7, true) }) rfl (fun K hK => ?_) AllReadyH.nil
        go_simp
        refine (HOS.out _).mono ?_
        rintro e wa ⟨rfl, hna⟩
        go_wp2_with fail
        have hn := New.trans hn hna
        refine hK.out _ _ (by first | exact hn | exact Upd.alloc hn _) (fun hn => ?_)
        clear hK K
        try simp only [Act.put, List.setIfInBounds_toArray, List.set_cons_zero, List.set_cons_succ]
        refine wpAnyH_take (i := 15) (oi := { dst := some 36, op := Op.binOp BinOp.eql 48 (Operand.tmp 31) (Operand.tmp 35) 48, type := 4, pos := "law.go:23", after := #[{ on := 10, ground := Ground.data }, { on := 14, ground := Ground.data }, { on := 7, ground := Ground.guard }], guard := some (7, true) }) (v := ?v5x11) rfl (by kernel_rfl) (by kernel_rfl) (by kernel_rfl) (fun _ _ _ h => h) (Or.inl ⟨by rfl, ?y5x11⟩) hn ?r5x11
        case y5x11 => (intro wS hS; (try go_simp); (try with_reducible rfl))
        try simp only [Act.put, List.setIfInBounds_toArray, List.set_cons_zero, List.set_cons_succ]
        refine wpAnyH_take (i := 16) (oi := { dst := some 37, op := Op.pick (Operand.tmp 28) (Operand.tmp 36) (Operand.const (Value.bool false)), type := 4, pos := "law.go:23", after := #[{ on := 7, ground := Ground.data }, { on := 15, ground := Ground.data }], guard := none }) (v := ?v5x12) rfl (by kernel_rfl) (by kernel_rfl) (by kernel_rfl) (fun _ _ _ h => h) (Or.inl ⟨by rfl, ?y5x12⟩) hn ?r5x12
        case y5x12 => (intro wS hS; (try go_simp); (try with_reducible rfl))
        try simp only [Act.put, List.setIfInBounds_toArray, List.set_cons_zero, List.set_cons_succ]
        refine wpAnyH_take (i := 17) (oi := { dst := some 38, op := Op.move (Operand.tmp 37), type := 4, pos := "law.go:23", after := #[{ on := 16, ground := Ground.data }, { on := 14, ground := Ground.chain }], guard := none }) (v := ?v5x13) rfl (by kernel_rfl) (by kernel_rfl) (by kernel_rfl) (fun _ _ _ h => h) (Or.inl ⟨by rfl, ?y5x13⟩) hn ?r5x13
        case y5x13 => (intro wS hS; (try go_simp); (try with_reducible rfl))
        try simp only [Act.put, List.setIfInBounds_toArray, List.set_cons_zero, List.set_cons_succ]
        refine wpAnyH_take (i := 18) (oi := { dst := some 39, op := Op.load 48 (Operand.tmp 7), type := 48, pos := "law.go:23", after := #[{ on := 17, ground := Ground.guard }], guard := some (17, true) }) (v := ?v5x14) rfl (by kernel_rfl) (by kernel_rfl) (by kernel_rfl) (fun _ _ _ h => h) (Or.inl ⟨by rfl, ?y5x14⟩) hn ?r5x14
        case y5x14 => (intro wS hS; have c0 := hS.cell z0.out (fun h => h); have c1 := hS.cell z1.out (fun h => h); (try go_simp); (try with_reducible rfl))
        try simp only [Act.put, List.setIfInBounds_toArray, List.set_cons_zero, List.set_cons_succ]
        refine wpAnyH_take (i := 19) (oi := { dst := some 40, op := Op.move (Operand.tmp 2), type := 3, pos := "law.go:23", after := #[{ on := 17, ground := Ground.guard }], guard := some (17, true) }) (v := ?v5x15) rfl (by kernel_rfl) (by kernel_rfl) (by kernel_rfl) (fun _ _ _ h => h) (Or.inl ⟨by rfl, ?y5x15⟩) hn ?r5x15
        case y5x15 => (intro wS hS; (try go_simp); (try with_reducible rfl))
        try simp only [Act.put, List.setIfInBounds_toArray, List.set_cons_zero, List.set_cons_succ]
        refine wpAnyH_take (i := 21) (oi := { dst := some 42, op := Op.load 46 (Operand.tmp 3), type := 46, pos := "law.go:23", after := #[{ on := 17, ground := Ground.guard }], guard := some (17, true) }) (v := ?v5x16) rfl (by kernel_rfl) (by kernel_rfl) (by kernel_rfl) (fun _ _ _ h => h) (Or.inl ⟨by rfl, ?y5x16⟩) hn ?r5x16
        case y5x16 => (intro wS hS; have c0 := hS.cell y0.out (fun h => h); have c1 := hS.cell y1.out (fun h => h); (try go_simp); (try with_reducible rfl))
        try simp only [Act.put, List.setIfInBounds_toArray, List.set_cons_zero, List.set_cons_succ]
        refine wpAnyH_take (i := 22) (oi := { dst := some 43, op := Op.move (Operand.tmp 2), type := 3, pos := "law.go:23", after := #[{ on := 17, ground := Ground.guard }], guard := some (17, true) }) (v := ?v5x17) rfl (by kernel_rfl) (by kernel_rfl) (by kernel_rfl) (fun _ _ _ h => h) (Or.inl ⟨by rfl, ?y5x17⟩) hn ?r5x17
        case y5x17 => (intro wS hS; (try go_simp); (try with_reducible rfl))
        try simp only [Act.put, List.setIfInBounds_toArray, List.set_cons_zero, List.set_cons_succ]
        refine wpAnyH_ready (rs := [20]) (by kernel_rfl) (by simp) ?_
        refine AllReadyH.cons (o := { dst := some 41, op := Op.call { callee := Callee.value (Operand.func 34), args := #[Operand.tmp 39, Operand.tmp 40], argTypes := #[48, 3] }, type := 48, pos := "law.go:23", after := #[{ on := 18, ground := Ground.data }, { on := 19, ground := Ground.data }, { on := 17, ground := Ground.chain }, { on := 17, ground := Ground.guard }], guard := some (17, true) }) rfl (fun K hK => ?_) AllReadyH.nil
        go_simp
        refine (HTA.out _).mono ?_
        rintro e wa ⟨rfl, hna⟩
        go_wp2_with fail
        have hn := New.trans hn hna
        refine hK.out _ _ (by first | exact hn | exact Upd.alloc hn _) (fun hn => ?_)
        clear hK K
        try simp only [Act.put, List.setIfInBounds_toArray, List.set_cons_zero, List.set_cons_succ]
        refine wpAnyH_ready (rs := [23]) (by kernel_rfl) (by simp) ?_
        refine AllReadyH.cons (o := { dst := some 44, op := Op.call { callee := Callee.value (Operand.func 35), args := #[Operand.tmp 42, Operand.tmp 43], argTypes := #[46, 3] }, type := 46, pos := "law.go:23", after := #[{ on := 21, ground := Ground.data }, { on := 22, ground := Ground.data }, { on := 20, ground := Ground.chain }, { on := 17, ground := Ground.guard }], guard := some (17, true) }) rfl (fun K hK => ?_) AllReadyH.nil
        go_simp
        refine (HTR.out _).mono ?_
        rintro e wa ⟨rfl, hna⟩
        go_wp2_with fail
        have hn := New.trans hn hna
        refine hK.out _ _ (by first | exact hn | exact Upd.alloc hn _) (fun hn => ?_)
        clear hK K
        try simp only [Act.put, List.setIfInBounds_toArray, List.set_cons_zero, List.set_cons_succ]
        refine wpAnyH_ready (rs := [24]) (by kernel_rfl) (by simp) ?_
        refine AllReadyH.cons (o := { dst := some 45, op := Op.call { callee := Callee.value (Operand.func 29), args := #[Operand.tmp 44], argTypes := #[46] }, type := 48, pos := "law.go:23", after := #[{ on := 23, ground := Ground.data }, { on := 23, ground := Ground.chain }, { on := 17, ground := Ground.guard }], guard := some (17, true) }) rfl (fun K hK => ?_) AllReadyH.nil
        go_simp
        refine (HOT.out _).mono ?_
        rintro e wa ⟨rfl, hna⟩
        go_wp2_with fail
        have hn := New.trans hn hna
        refine hK.out _ _ (by first | exact hn | exact Upd.alloc hn _) (fun hn => ?_)
        clear hK K
        try simp only [Act.put, List.setIfInBounds_toArray, List.set_cons_zero, List.set_cons_succ]
        refine wpAnyH_take (i := 25) (oi := { dst := some 46, op := Op.binOp BinOp.eql 48 (Operand.tmp 41) (Operand.tmp 45) 48, type := 4, pos := "law.go:23", after := #[{ on := 20, ground := Ground.data }, { on := 24, ground := Ground.data }, { on := 17, ground := Ground.guard }], guard := some (17, true) }) (v := ?v5x18) rfl (by kernel_rfl) (by kernel_rfl) (by kernel_rfl) (fun _ _ _ h => h) (Or.inl ⟨by rfl, ?y5x18⟩) hn ?r5x18
        case y5x18 => (intro wS hS; (try go_simp); (try with_reducible rfl))
        try simp only [Act.put, List.setIfInBounds_toArray, List.set_cons_zero, List.set_cons_succ]
        refine wpAnyH_take (i := 26) (oi := { dst := some 47, op := Op.pick (Operand.tmp 38) (Operand.tmp 46) (Operand.const (Value.bool false)), type := 4, pos := "law.go:23", after := #[{ on := 17, ground := Ground.data }, { on := 25, ground := Ground.data }], guard := none }) (v := ?v5x19) rfl (by kernel_rfl) (by kernel_rfl) (by kernel_rfl) (fun _ _ _ h => h) (Or.inl ⟨by rfl, ?y5x19⟩) hn ?r5x19
        case y5x19 => (intro wS hS; (try go_simp); (try with_reducible rfl))
        try simp only [Act.put, List.setIfInBounds_toArray, List.set_cons_zero, List.set_cons_succ]
        refine wpAnyH_take (i := 27) (oi := { dst := some 48, op := Op.move (Operand.tmp 47), type := 4, pos := "law.go:23", after := #[{ on := 26, ground := Ground.data }, { on := 24, ground := Ground.chain }], guard := none }) (v := ?v5x20) rfl (by kernel_rfl) (by kernel_rfl) (by kernel_rfl) (fun _ _ _ h => h) (Or.inl ⟨by rfl, ?y5x20⟩) hn ?r5x20
        case y5x20 => (intro wS hS; (try go_simp); (try with_reducible rfl))
        try simp only [Act.put, List.setIfInBounds_toArray, List.set_cons_zero, List.set_cons_succ]
        refine wpAnyH_ready (rs := [28]) (by kernel_rfl) (by simp) ?_
        refine AllReadyH.cons (o := { dst := some 49, op := Op.call { callee := Callee.value (Operand.func 36), args := #[], argTypes := #[] }, type := 4, pos := "law.go:23", after := #[{ on := 27, ground := Ground.chain }, { on := 27, ground := Ground.guard }], guard := some (27, true) }) rfl (fun K hK => ?_) AllReadyH.nil
        go_simp
        refine (HAW.out _).mono ?_
        rintro e wa ⟨rfl, hna⟩
        go_wp2_with fail
        have hn := New.trans hn hna
        refine hK.out _ _ (by first | exact hn | exact Upd.alloc hn _) (fun hn => ?_)
        clear hK K
        try simp only [Act.put, List.setIfInBounds_toArray, List.set_cons_zero, List.set_cons_succ]
        refine wpAnyH_take (i := 29) (oi := { dst := some 50, op := Op.pick (Operand.tmp 48) (Operand.tmp 49) (Operand.const (Value.bool false)), type := 4, pos := "law.go:23", after := #[{ on := 27, ground := Ground.data }, { on := 28, ground := Ground.data }], guard := none }) (v := ?v5x21) rfl (by kernel_rfl) (by kernel_rfl) (by kernel_rfl) (fun _ _ _ h => h) (Or.inl ⟨by rfl, ?y5x21⟩) hn ?r5x21
        case y5x21 => (intro wS hS; (try go_simp); (try with_reducible rfl))
        try simp only [Act.put, List.setIfInBounds_toArray, List.set_cons_zero, List.set_cons_succ]
        refine wpAnyH_take (i := 30) (oi := { dst := some 6, op := Op.assign (Operand.tmp 50), type := 4, pos := "law.go:23", after := #[{ on := 29, ground := Ground.data }, { on := 28, ground := Ground.chain }, { on := 0, ground := Ground.phase }, { on := 1, ground := Ground.phase }, { on := 2, ground := Ground.phase }, { on := 3, ground := Ground.phase }, { on := 4, ground := Ground.phase }, { on := 5, ground := Ground.phase }, { on := 6, ground := Ground.phase }, { on := 7, ground := Ground.phase }, { on := 8, ground := Ground.phase }, { on := 9, ground := Ground.phase }, { on := 10, ground := Ground.phase }, { on := 11, ground := Ground.phase }, { on := 12, ground := Ground.phase }, { on := 13, ground := Ground.phase }, { on := 14, ground := Ground.phase }, { on := 15, ground := Ground.phase }, { on := 16, ground := Ground.phase }, { on := 17, ground := Ground.phase }, { on := 18, ground := Ground.phase }, { on := 19, ground := Ground.phase }, { on := 20, ground := Ground.phase }, { on := 21, ground := Ground.phase }, { on := 22, ground := Ground.phase }, { on := 23, ground := Ground.phase }, { on := 24, ground := Ground.phase }, { on := 25, ground := Ground.phase }, { on := 26, ground := Ground.phase }, { on := 27, ground := Ground.phase }, { on := 28, ground := Ground.phase }, { on := 29, ground := Ground.phase }], guard := none }) (v := ?v5x22) rfl (by kernel_rfl) (by kernel_rfl) (by kernel_rfl) (fun _ _ _ h => h) (Or.inl ⟨by rfl, ?y5x22⟩) hn ?r5x22
        case y5x22 => (intro wS hS; (try go_simp); (try with_reducible rfl))
        try simp only [Act.put, List.setIfInBounds_toArray, List.set_cons_zero, List.set_cons_succ]
        refine wpAnyH_done (by kernel_rfl) ?_ _
        refine NoPanic.normal ?_
        go_wp2_with fail
        go_ret
        exact ⟨rfl, New.trans HALL.out hn⟩
end Go.Proofs.Ytlmimlnflcfccaa
