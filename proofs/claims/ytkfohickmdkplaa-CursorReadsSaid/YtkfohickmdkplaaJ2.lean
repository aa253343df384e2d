/-
  The document's wants: the least number that may stand.
-/
import Derived.Test.YtkfohickmdkplaaJ1
import Derived.Test.YtkfohickmdkplaaJ0
import Derived.Deep.RegionHeld3
import Derived.Deep.DeepCutAuto
import Derived.WalkMore
import Derived.WalkLawsBesides
import Derived.Deep.LoopGhost
namespace Go.Proofs.Ytkfohickmdkplaa
open Go.RowKit Go.Proofs.Leb Go.Proofs.Own Go.Proofs.Cur
set_option maxRecDepth 100000
set_option maxHeartbeats 4000000

theorem least_0 (x : Wnt) (pv : Value) (r : Int) (w : World) (hk : x.kind = 0) (hf : x.Fine) :
    Calls Try.prog 75 #[.agg (valW x pv), .int .i64 r] w fun e w' => ∃ v0 : Nat, e = .returned (.int .u64 v0) ∧ x.Least r v0 ∧ New w w' := by
  have HL := hid (least0 hf hk r)
  obtain ⟨kind, lo, hi, i1, i2, o1, o2, b1, b2, ps⟩ := x
  subst hk
  unfold valW
  go_enter Try.func75, Try.ntmps75
  go_wp2_with fail
  go_ret
  exact ⟨lo, rfl, HL.out, (Upd.refl _ _).alloc _⟩

theorem fills_tm (i2 b2 r : Int) (n : Nat) : fills i2 b2 r n ↔ 1099511627776 ≤ Span.most (tm n i2) b2 ∨ (r < 1099511627776 ∧ r ≤ Span.most (tm n i2) b2) := by
  have e : (if (n : Int) ≤ 0 then 0 else if 1099511627776 ≤ i2 then 1099511627776 else Span.mul n i2) = tm n i2 := by
    unfold tm
    by_cases h : (n : Int) ≤ 0
    · rw [if_pos h, if_pos h]
    · rw [if_neg h, if_neg h]
      by_cases h2 : 1099511627776 ≤ i2
      · rw [if_pos h2, mul_top n i2 (by omega) h2]
      · rw [if_neg h2]
  unfold fills
  rw [e]

theorem least_1 (x : Wnt) (pv : Value) (r : Int) (w : World) (hk : x.kind = 1) (hf : x.Fine) (hr0 : 0 ≤ r) (hr : r ≤ 1099511627776) :
    Calls Try.prog 75 #[.agg (valW x pv), .int .i64 r] w fun e w' => ∃ v0 : Nat, e = .returned (.int .u64 v0) ∧ x.Least r v0 ∧ New w w' := by
  have HL := hid (fun v0 h => least1 (v0 := v0) hf hk hr0 hr h)
  have hb := hf.beh (.inr (.inl hk))
  have hit := hf.item hk
  have hm := hf.i64
  have hb0 : 0 ≤ x.b2 := by obtain ⟨c1, c2, c3, c4⟩ := hb; omega
  have HMONO := hid (fun (m n : Nat) (h : m ≤ n) => fills_mono (r := r) hit hb0 (m := m) (n := n) h)
  obtain ⟨⟨a1, a2, a3, a4⟩, a5, a6, a7⟩ := hit
  obtain ⟨d1, d2, d3, d4⟩ := hb
  have HT := hid (fun (n : Nat) w (hn : n ≤ 4294967295) => rTimes_any x.i1 x.i2 n w a1 (by omega) (by omega) hm.1 (by omega))
  have HA := hid (fun (n : Nat) w => rand_any (tm n x.i1) (tm n x.i2) x.b1 x.b2 w (tm_bd a1).1 (by have := (tm_bd (n := n) a1).2; omega) d1 (by omega) (tm_bd (by omega : 0 ≤ x.i2)).1 hb0)
  have HFT := hid (fun n => fills_tm x.i2 x.b2 r n)
  obtain ⟨kind, lo, hi, i1, i2, o1, o2, b1, b2, ps⟩ := x
  subst hk
  unfold valW
  simp only at *
  clear hf hm a1 a2 a3 a4 a5 a6 a7 d1 d2 d3 d4 hb0
  go_enter Try.func75, Try.ntmps75
  go_wp2_with fail
  have hn1 : New w (w.alloc (.cells #[.int .i64 1, .int .u64 lo, .int .u64 hi, .int .i64 i1, .int .i64 i2, .int .i64 o1, .int .i64 o2, .int .i64 b1, .int .i64 b2, pv] 47)) := (Upd.refl _ _).alloc _
  have c3 : (w.alloc (.cells #[.int .i64 1, .int .u64 lo, .int .u64 hi, .int .i64 i1, .int .i64 i2, .int .i64 o1, .int .i64 o2, .int .i64 b1, .int .i64 b2, pv] 47)).cell? ⟨w.heap.size, 3, none⟩ = some (.int .i64 i1) := by simp
  have c4 : (w.alloc (.cells #[.int .i64 1, .int .u64 lo, .int .u64 hi, .int .i64 i1, .int .i64 i2, .int .i64 o1, .int .i64 o2, .int .i64 b1, .int .i64 b2, pv] 47)).cell? ⟨w.heap.size, 4, none⟩ = some (.int .i64 i2) := by simp
  have c7 : (w.alloc (.cells #[.int .i64 1, .int .u64 lo, .int .u64 hi, .int .i64 i1, .int .i64 i2, .int .i64 o1, .int .i64 o2, .int .i64 b1, .int .i64 b2, pv] 47)).cell? ⟨w.heap.size, 7, none⟩ = some (.int .i64 b1) := by simp
  have c8 : (w.alloc (.cells #[.int .i64 1, .int .u64 lo, .int .u64 hi, .int .i64 i1, .int .i64 i2, .int .i64 o1, .int .i64 o2, .int .i64 b1, .int .i64 b2, pv] 47)).cell? ⟨w.heap.size, 8, none⟩ = some (.int .i64 b2) := by simp
  generalize w.alloc (.cells #[.int .i64 1, .int .u64 lo, .int .u64 hi, .int .i64 i1, .int .i64 i2, .int .i64 o1, .int .i64 o2, .int .i64 b1, .int .i64 b2, pv] 47) = w1 at *
  have C3 := hid c3
  have C4 := hid c4
  have C7 := hid c7
  have C8 := hid c8
  have HN1 := hid hn1
  clear c3 c4 c7 c8 hn1
  go_loopw [5, 6, 7, 8] (fun a b _ _ wr => ∃ l h : Nat, a = .int .u64 l ∧ b = .int .u64 h ∧ l ≤ h ∧ h ≤ 4294967295 ∧ New w1 wr ∧ (∀ n, n < l → ¬ fills i2 b2 r n) ∧ (h = 4294967295 ∨ fills i2 b2 r h)) (fun a b _ _ _ => (intOf b).toNat - (intOf a).toNat)
  case atStart => exact ⟨0, 4294967295, rfl, rfl, by omega, Nat.le_refl _, Upd.refl _ _, fun n h => absurd h (Nat.not_lt_zero _), .inl rfl⟩
  case round =>
    obtain ⟨l, h, rfl, rfl, hlh, hh, hw, hno, hyes⟩ := hrel
    have HW := hid hw
    have HNO := hid hno
    have HYES := hid hyes
    clear hno hyes
    by_cases hlt : l < h
    · obtain ⟨m, hm⟩ : ∃ m, (l + h) / 2 = m := ⟨_, rfl⟩
      have hm1 : l ≤ m := by omega
      have hm2 : m < h := by omega
      have hmi : ((l : Int) + (h : Int)) / 2 = (m : Int) := by omega
      have HTm := hid (fun w => HT.out m w (by omega))
      have HAm := hid (fun w => HA.out m w)
      have HFm := hid (HFT.out m)
      generalize tm (m : Int) i1 + b1 = X at *
      generalize Span.most (tm (m : Int) i2) b2 = Y at *
      generalize tm (m : Int) i1 = T1 at *
      generalize tm (m : Int) i2 = T2 at *
      have HM := hid hm
      clear hm hw
      go_upto_region 8 with fail
      rw [hmi]
      clear hmi
      have hn : New wr wr.drew := (Upd.refl _ _).drew
      go_cut [8] (fun p wx => ∃ g, p = .pointer (some ⟨g, 0, none⟩) ∧ New wr wx ∧ Blk wx g (.int .i64 X) (.int .i64 Y) 44)
      case first =>
        have hw64 : IntKind.i64.wrap (m : Int) = (m : Int) := IntWalk.i64_in _ (by omega)
        refine wp_region_noPanic ?_
        refine wp_region_held_drew (S := (New wr)) (by kernel_rfl) (by first | exact hn | exact (Upd.refl _ _).drew | exact Upd.drew (by assumption)) (fun hn => ?_)
        generalize wr.drew = wd at *
        refine wpAnyH_take (i := 0) (oi := { dst := some 24, op := Op.fieldAddr 47 (Operand.tmp 2) 3, type := 0, pos := "ref.go:122", after := #[], guard := none }) (v := ?v6x1) rfl (by kernel_rfl) (by kernel_rfl) (by kernel_rfl) (fun _ _ _ h => h) (Or.inl ⟨by rfl, ?y6x1⟩) hn ?r6x1
        case y6x1 => (intro wS hS; (try go_simp); (try with_reducible rfl))
        try simp only [Act.put, List.setIfInBounds_toArray, List.set_cons_zero, List.set_cons_succ]
        refine wpAnyH_take (i := 1) (oi := { dst := some 25, op := Op.load 44 (Operand.tmp 24), type := 44, pos := "ref.go:122", after := #[{ on := 0, ground := Ground.data }], guard := none }) (v := ?v6x2) rfl (by kernel_rfl) (by kernel_rfl) (by kernel_rfl) (fun _ _ _ h => h) (Or.inl ⟨by rfl, ?y6x2⟩) hn ?r6x2
        case y6x2 => (intro wS hS; have d3 := (New.trans HW.out hS).cell C3.out (fun h => h); have d4 := (New.trans HW.out hS).cell C4.out (fun h => h); (try go_simp); (try with_reducible rfl))
        try simp only [Act.put, List.setIfInBounds_toArray, List.set_cons_zero, List.set_cons_succ]
        refine wpAnyH_take (i := 2) (oi := { dst := some 26, op := Op.move (Operand.tmp 7), type := 42, pos := "ref.go:122", after := #[], guard := none }) (v := ?v6x3) rfl (by kernel_rfl) (by kernel_rfl) (by kernel_rfl) (fun _ _ _ h => h) (Or.inl ⟨by rfl, ?y6x3⟩) hn ?r6x3
        case y6x3 => (intro wS hS; (try go_simp); (try with_reducible rfl))
        try simp only [Act.put, List.setIfInBounds_toArray, List.set_cons_zero, List.set_cons_succ]
        refine wpAnyH_take (i := 3) (oi := { dst := some 27, op := Op.convert 42 3 (Operand.tmp 26), type := 3, pos := "ref.go:122", after := #[{ on := 2, ground := Ground.data }], guard := none }) (v := ?v6x4) rfl (by kernel_rfl) (by kernel_rfl) (by kernel_rfl) (fun _ _ _ h => h) (Or.inl ⟨by rfl, ?y6x4⟩) hn ?r6x4
        case y6x4 => (intro wS hS; (try go_simp); (try with_reducible rfl))
        try simp only [Act.put, List.setIfInBounds_toArray, List.set_cons_zero, List.set_cons_succ]
        refine wpAnyH_take (i := 5) (oi := { dst := some 29, op := Op.fieldAddr 47 (Operand.tmp 2) 5, type := 0, pos := "ref.go:122", after := #[], guard := none }) (v := ?v6x5) rfl (by kernel_rfl) (by kernel_rfl) (by kernel_rfl) (fun _ _ _ h => h) (Or.inl ⟨by rfl, ?y6x5⟩) hn ?r6x5
        case y6x5 => (intro wS hS; (try go_simp); (try with_reducible rfl))
        try simp only [Act.put, List.setIfInBounds_toArray, List.set_cons_zero, List.set_cons_succ]
        refine wpAnyH_take (i := 6) (oi := { dst := some 30, op := Op.load 44 (Operand.tmp 29), type := 44, pos := "ref.go:122", after := #[{ on := 5, ground := Ground.data }], guard := none }) (v := ?v6x6) rfl (by kernel_rfl) (by kernel_rfl) (by kernel_rfl) (fun _ _ _ h => h) (Or.inl ⟨by rfl, ?y6x6⟩) hn ?r6x6
        case y6x6 => (intro wS hS; have d7 := (New.trans HW.out hS).cell C7.out (fun h => h); have d8 := (New.trans HW.out hS).cell C8.out (fun h => h); (try go_simp); (try with_reducible rfl))
        try simp only [Act.put, List.setIfInBounds_toArray, List.set_cons_zero, List.set_cons_succ]
        refine wpAnyH_ready (rs := [4, 8]) (by kernel_rfl) (by simp) ?_
        refine AllReadyH.cons (o := { dst := some 28, op := Op.call { callee := Callee.value (Operand.func 78), args := #[Operand.tmp 25, Operand.tmp 27], argTypes := #[44, 3] }, type := 44, pos := "ref.go:122", after := #[{ on := 1, ground := Ground.data }, { on := 3, ground := Ground.data }], guard := none }) rfl (fun K hK => ?_) ?_
        · skip
          go_simp
          with_reducible refine (HTm.out _).mono ?_
          rintro e wa ⟨rfl, hna⟩
          go_wp2_with fail
          have hn := New.trans hn hna
          try replace hz8 := Blk.new hz8 hna
          refine hK.out _ _ (by first | exact hn | exact Upd.alloc hn _) (fun hn => ?_)
          clear hK K
          try simp only [Act.put, List.setIfInBounds_toArray, List.set_cons_zero, List.set_cons_succ]
          refine wpAnyH_ready (rs := [7, 8]) (by kernel_rfl) (by simp) ?_
          refine AllReadyH.cons (o := { dst := some 31, op := Op.call { callee := Callee.value (Operand.func 77), args := #[Operand.tmp 28, Operand.tmp 30], argTypes := #[44, 44] }, type := 44, pos := "ref.go:122", after := #[{ on := 4, ground := Ground.data }, { on := 6, ground := Ground.data }, { on := 4, ground := Ground.chain }], guard := none }) rfl (fun K hK => ?_) ?_
          · skip
            go_simp
            with_reducible refine (HAm.out _).mono ?_
            rintro e wa ⟨rfl, hna⟩
            go_wp2_with fail
            have hn := New.trans hn hna
            try replace hz8 := Blk.new hz8 hna
            refine hK.out _ _ (by first | exact hn | exact Upd.alloc hn _) (fun hn => ?_)
            clear hK K
            try simp only [Act.put, List.setIfInBounds_toArray, List.set_cons_zero, List.set_cons_succ]
            refine wpAnyH_ready (rs := [8]) (by kernel_rfl) (by simp) ?_
            refine AllReadyH.cons (o := { dst := some 8, op := Op.alloc 44, type := 0, pos := "ref.go:122", after := #[], guard := none }) rfl (fun K hK => ?_) AllReadyH.nil
            go_simp
            refine absN hn ?_ hn.size
            intro g8 hg8 hf8
            rw [hg8] at hf8 ⊢
            refine allocStep hn ?_
            intro W2 hu hn hz8
            rw [hg8] at hz8
            clear hg8 hu
            refine hK.out _ _ (by first | exact hn | exact Upd.alloc hn _) (fun hn => ?_)
            clear hK K
            try simp only [Act.put, List.setIfInBounds_toArray, List.set_cons_zero, List.set_cons_succ]
            refine wpAnyH_ready (rs := [9]) (by kernel_rfl) (by simp) ?_
            refine AllReadyH.cons (o := { dst := none, op := Op.store 44 (Operand.tmp 8) (Operand.tmp 31), type := 0, pos := "ref.go:122", after := #[{ on := 8, ground := Ground.data }, { on := 7, ground := Ground.data }, { on := 7, ground := Ground.chain }, { on := 0, ground := Ground.phase }, { on := 1, ground := Ground.phase }, { on := 2, ground := Ground.phase }, { on := 3, ground := Ground.phase }, { on := 4, ground := Ground.phase }, { on := 5, ground := Ground.phase }, { on := 6, ground := Ground.phase }, { on := 7, ground := Ground.phase }, { on := 8, ground := Ground.phase }], guard := none }) rfl (fun K hK => ?_) AllReadyH.nil
            have z0 := hz8.c0
            have z1 := hz8.c1
            have f0 := hz8.f 0
            have f1 := hz8.f 1
            go_simp
            refine storeStep hn hz8 hf8 ?_
            clear z0 z1 f0 f1
            intro W2 hn hz8' hO
            clear hO hz8
            have hz8 := hz8'
            refine hK.out _ _ (by first | exact hn | exact Upd.alloc hn _) (fun hn => ?_)
            clear hK K
            try simp only [Act.put, List.setIfInBounds_toArray, List.set_cons_zero, List.set_cons_succ]
            refine wpAnyH_done (by kernel_rfl) ?_ _
            refine NoPanic.normal ?_
            go_wp2_with fail
            go_meet
            exact ⟨g8, rfl, hn, hz8⟩
          refine AllReadyH.cons (o := { dst := some 8, op := Op.alloc 44, type := 0, pos := "ref.go:122", after := #[], guard := none }) rfl (fun K hK => ?_) AllReadyH.nil
          go_simp
          refine absN hn ?_ hn.size
          intro g8 hg8 hf8
          rw [hg8] at hf8 ⊢
          refine allocStep hn ?_
          intro W2 hu hn hz8
          rw [hg8] at hz8
          clear hg8 hu
          refine hK.out _ _ (by first | exact hn | exact Upd.alloc hn _) (fun hn => ?_)
          clear hK K
          try simp only [Act.put, List.setIfInBounds_toArray, List.set_cons_zero, List.set_cons_succ]
          refine wpAnyH_ready (rs := [7]) (by kernel_rfl) (by simp) ?_
          refine AllReadyH.cons (o := { dst := some 31, op := Op.call { callee := Callee.value (Operand.func 77), args := #[Operand.tmp 28, Operand.tmp 30], argTypes := #[44, 44] }, type := 44, pos := "ref.go:122", after := #[{ on := 4, ground := Ground.data }, { on := 6, ground := Ground.data }, { on := 4, ground := Ground.chain }], guard := none }) rfl (fun K hK => ?_) AllReadyH.nil
          go_simp
          with_reducible refine (HAm.out _).mono ?_
          rintro e wa ⟨rfl, hna⟩
          go_wp2_with fail
          have hn := New.trans hn hna
          try replace hz8 := Blk.new hz8 hna
          refine hK.out _ _ (by first | exact hn | exact Upd.alloc hn _) (fun hn => ?_)
          clear hK K
          try simp only [Act.put, List.setIfInBounds_toArray, List.set_cons_zero, List.set_cons_succ]
          refine wpAnyH_ready (rs := [9]) (by kernel_rfl) (by simp) ?_
          refine AllReadyH.cons (o := { dst := none, op := Op.store 44 (Operand.tmp 8) (Operand.tmp 31), type := 0, pos := "ref.go:122", after := #[{ on := 8, ground := Ground.data }, { on := 7, ground := Ground.data }, { on := 7, ground := Ground.chain }, { on := 0, ground := Ground.phase }, { on := 1, ground := Ground.phase }, { on := 2, ground := Ground.phase }, { on := 3, ground := Ground.phase }, { on := 4, ground := Ground.phase }, { on := 5, ground := Ground.phase }, { on := 6, ground := Ground.phase }, { on := 7, ground := Ground.phase }, { on := 8, ground := Ground.phase }], guard := none }) rfl (fun K hK => ?_) AllReadyH.nil
          have z0 := hz8.c0
          have z1 := hz8.c1
          have f0 := hz8.f 0
          have f1 := hz8.f 1
          go_simp
          refine storeStep hn hz8 hf8 ?_
          clear z0 z1 f0 f1
          intro W2 hn hz8' hO
          clear hO hz8
          have hz8 := hz8'
          refine hK.out _ _ (by first | exact hn | exact Upd.alloc hn _) (fun hn => ?_)
          clear hK K
          try simp only [Act.put, List.setIfInBounds_toArray, List.set_cons_zero, List.set_cons_succ]
          refine wpAnyH_done (by kernel_rfl) ?_ _
          refine NoPanic.normal ?_
          go_wp2_with fail
          go_meet
          exact ⟨g8, rfl, hn, hz8⟩
        refine AllReadyH.cons (o := { dst := some 8, op := Op.alloc 44, type := 0, pos := "ref.go:122", after := #[], guard := none }) rfl (fun K hK => ?_) AllReadyH.nil
        go_simp
        refine absN hn ?_ hn.size
        intro g8 hg8 hf8
        rw [hg8] at hf8 ⊢
        refine allocStep hn ?_
        intro W2 hu hn hz8
        rw [hg8] at hz8
        clear hg8 hu
        refine hK.out _ _ (by first | exact hn | exact Upd.alloc hn _) (fun hn => ?_)
        clear hK K
        try simp only [Act.put, List.setIfInBounds_toArray, List.set_cons_zero, List.set_cons_succ]
        refine wpAnyH_ready (rs := [4]) (by kernel_rfl) (by simp) ?_
        refine AllReadyH.cons (o := { dst := some 28, op := Op.call { callee := Callee.value (Operand.func 78), args := #[Operand.tmp 25, Operand.tmp 27], argTypes := #[44, 3] }, type := 44, pos := "ref.go:122", after := #[{ on := 1, ground := Ground.data }, { on := 3, ground := Ground.data }], guard := none }) rfl (fun K hK => ?_) AllReadyH.nil
        go_simp
        with_reducible refine (HTm.out _).mono ?_
        rintro e wa ⟨rfl, hna⟩
        go_wp2_with fail
        have hn := New.trans hn hna
        try replace hz8 := Blk.new hz8 hna
        refine hK.out _ _ (by first | exact hn | exact Upd.alloc hn _) (fun hn => ?_)
        clear hK K
        try simp only [Act.put, List.setIfInBounds_toArray, List.set_cons_zero, List.set_cons_succ]
        refine wpAnyH_ready (rs := [7]) (by kernel_rfl) (by simp) ?_
        refine AllReadyH.cons (o := { dst := some 31, op := Op.call { callee := Callee.value (Operand.func 77), args := #[Operand.tmp 28, Operand.tmp 30], argTypes := #[44, 44] }, type := 44, pos := "ref.go:122", after := #[{ on := 4, ground := Ground.data }, { on := 6, ground := Ground.data }, { on := 4, ground := Ground.chain }], guard := none }) rfl (fun K hK => ?_) AllReadyH.nil
        go_simp
        with_reducible refine (HAm.out _).mono ?_
        rintro e wa ⟨rfl, hna⟩
        go_wp2_with fail
        have hn := New.trans hn hna
        try replace hz8 := Blk.new hz8 hna
        refine hK.out _ _ (by first | exact hn | exact Upd.alloc hn _) (fun hn => ?_)
        clear hK K
        try simp only [Act.put, List.setIfInBounds_toArray, List.set_cons_zero, List.set_cons_succ]
        refine wpAnyH_ready (rs := [9]) (by kernel_rfl) (by simp) ?_
        refine AllReadyH.cons (o := { dst := none, op := Op.store 44 (Operand.tmp 8) (Operand.tmp 31), type := 0, pos := "ref.go:122", after := #[{ on := 8, ground := Ground.data }, { on := 7, ground := Ground.data }, { on := 7, ground := Ground.chain }, { on := 0, ground := Ground.phase }, { on := 1, ground := Ground.phase }, { on := 2, ground := Ground.phase }, { on := 3, ground := Ground.phase }, { on := 4, ground := Ground.phase }, { on := 5, ground := Ground.phase }, { on := 6, ground := Ground.phase }, { on := 7, ground := Ground.phase }, { on := 8, ground := Ground.phase }], guard := none }) rfl (fun K hK => ?_) AllReadyH.nil
        have z0 := hz8.c0
        have z1 := hz8.c1
        have f0 := hz8.f 0
        have f1 := hz8.f 1
        go_simp
        refine storeStep hn hz8 hf8 ?_
        clear z0 z1 f0 f1
        intro W2 hn hz8' hO
        clear hO hz8
        have hz8 := hz8'
        refine hK.out _ _ (by first | exact hn | exact Upd.alloc hn _) (fun hn => ?_)
        clear hK K
        try simp only [Act.put, List.setIfInBounds_toArray, List.set_cons_zero, List.set_cons_succ]
        refine wpAnyH_done (by kernel_rfl) ?_ _
        refine NoPanic.normal ?_
        go_wp2_with fail
        go_meet
        exact ⟨g8, rfl, hn, hz8⟩
      case rest =>
        obtain ⟨g, rfl, hw2, hz⟩ := hcut
        obtain ⟨w2, rfl⟩ : ∃ w2, w2 = wc := ⟨_, rfl⟩
        have HW2 := hid (New.trans HW.out hw2)
        have z1 := hz.c1
        clear hw2 hn
        by_cases y1 : 1099511627776 ≤ Y
        · have HFY : Hid (fills i2 b2 r m) := HFm.out.2 (.inl y1)
          go_wp2_with fail
          go_roundw
          case rel => exact ⟨l, m, rfl, rfl, hm1, by omega, HW2.out, HNO.out, .inr HFY.out⟩
          case measure => simp [intOf]; omega
        · by_cases y2 : r < 1099511627776
          · by_cases y3 : r ≤ Y
            · have HFY : Hid (fills i2 b2 r m) := HFm.out.2 (.inr ⟨y2, y3⟩)
              go_wp2_with fail
              go_roundw
              case rel => exact ⟨l, m, rfl, rfl, hm1, by omega, HW2.out, HNO.out, .inr HFY.out⟩
              case measure => simp [intOf]; omega
            · have HFY : Hid (¬ fills i2 b2 r m) := by show ¬ _; rw [HFm.out]; omega
              go_wp2_with fail
              go_roundw
              case rel => exact ⟨m + 1, h, by go_num, rfl, by omega, hh, HW2.out, fun n hn hfn => HFY.out (HMONO.out n m (by omega) hfn), HYES.out⟩
              case measure => simp [intOf]; omega
          · have HFY : Hid (¬ fills i2 b2 r m) := by show ¬ _; rw [HFm.out]; omega
            go_wp2_with fail
            go_roundw
            case rel => exact ⟨m + 1, h, by go_num, rfl, by omega, hh, HW2.out, fun n hn hfn => HFY.out (HMONO.out n m (by omega) hfn), HYES.out⟩
            case measure => simp [intOf]; omega
    · obtain rfl : l = h := by omega
      go_wp2_with fail
      go_ret
      exact ⟨l, rfl, HL.out l ⟨by omega, HNO.out, HYES.out⟩, New.trans HN1.out HW.out⟩

theorem least_2 (x : Wnt) (pv : Value) (r : Int) (w : World) (hk : x.kind = 2) (hf : x.Fine) (hr0 : 0 ≤ r) (hr : r ≤ 1099511627776) :
    Calls Try.prog 75 #[.agg (valW x pv), .int .i64 r] w fun e w' => ∃ v0 : Nat, e = .returned (.int .u64 v0) ∧ x.Least r v0 ∧ New w w' := by
  have HL := hid (least2_ok hf hk hr0 hr)
  have hb := hf.beh (.inr (.inr hk))
  have ho := hf.own hk
  have hm := hf.i64
  obtain ⟨a1, a2, a3, a4⟩ := ho
  obtain ⟨d1, d2, d3, d4⟩ := hb
  obtain ⟨kind, lo, hi, i1, i2, o1, o2, b1, b2, ps⟩ := x
  subst hk
  unfold valW
  simp only at *
  obtain ⟨v0, hv0⟩ : ∃ v0, least2 ⟨2, lo, hi, i1, i2, o1, o2, b1, b2, ps⟩ r = v0 := ⟨_, rfl⟩
  rw [hv0] at HL
  have hv : (v0 : Int) = if 1099511627776 ≤ b2 ∨ 1099511627776 ≤ r ∨ r - b2 < o1 then o1 else r - b2 := by
    rw [← hv0]
    unfold least2
    simp only
    split <;> omega
  have hb2 : 0 ≤ b2 := by omega
  clear hf hv0
  have hc : (1099511627776 ≤ b2) ∨ (¬ 1099511627776 ≤ b2 ∧ 1099511627776 ≤ r) ∨ (¬ 1099511627776 ≤ b2 ∧ ¬ 1099511627776 ≤ r ∧ r - b2 < o1) ∨ (¬ 1099511627776 ≤ b2 ∧ ¬ 1099511627776 ≤ r ∧ ¬ r - b2 < o1) := by omega
  rcases hc with c | ⟨c, c2⟩ | ⟨c, c2, c3⟩ | ⟨c, c2, c3⟩
  · rw [if_pos (.inl c)] at hv
    have HV := hid hv
    have e1 : IntKind.u64.wrap o1 = o1 := IntWalk.u64_in _ (by omega)
    clear hv
    go_enter Try.func75, Try.ntmps75
    go_wp2_with fail
    go_ret
    exact ⟨v0, by rw [HV.out]; rfl, HL.out, (Upd.refl _ _).alloc _⟩
  · rw [if_pos (.inr (.inl c2))] at hv
    have HV := hid hv
    have e1 : IntKind.u64.wrap o1 = o1 := IntWalk.u64_in _ (by omega)
    clear hv
    go_enter Try.func75, Try.ntmps75
    go_wp2_with fail
    go_ret
    exact ⟨v0, by rw [HV.out]; rfl, HL.out, (Upd.refl _ _).alloc _⟩
  · rw [if_pos (.inr (.inr c3))] at hv
    have HV := hid hv
    have e1 : IntKind.u64.wrap o1 = o1 := IntWalk.u64_in _ (by omega)
    clear hv
    go_enter Try.func75, Try.ntmps75
    go_wp2_with fail
    go_ret
    exact ⟨v0, by rw [HV.out]; rfl, HL.out, (Upd.refl _ _).alloc _⟩
  · rw [if_neg (by omega)] at hv
    have HV := hid hv
    have e1 : IntKind.u64.wrap (r - b2) = r - b2 := IntWalk.u64_in _ (by omega)
    clear hv
    go_enter Try.func75, Try.ntmps75
    go_wp2_with fail
    go_ret
    exact ⟨v0, by rw [HV.out]; rfl, HL.out, (Upd.refl _ _).alloc _⟩

theorem least_any (x : Wnt) (pv : Value) (r : Int) (w : World) (hk : x.kind = 0 ∨ x.kind = 1 ∨ x.kind = 2) (hf : x.Fine) (hr0 : 0 ≤ r) (hr : r ≤ 1099511627776) :
    Calls Try.prog 75 #[.agg (valW x pv), .int .i64 r] w fun e w' => ∃ v0 : Nat, e = .returned (.int .u64 v0) ∧ x.Least r v0 ∧ New w w' := by
  rcases hk with hk | hk | hk
  · exact least_0 x pv r w hk hf
  · exact least_1 x pv r w hk hf hr0 hr
  · exact least_2 x pv r w hk hf hr0 hr
end Go.Proofs.Ytkfohickmdkplaa

namespace Go.Proofs.Own
open Go Go.RowKit

theorem run_loadVar_at {P : Program} (w : World) (b off : Nat) (ty : TypeId) (cs : Array Value) (d : TypeDesc) (hc : ∀ j v, cs[j]? = some v → w.cell? ⟨b, off + j, none⟩ = some v)
    (hu : P.underlying ty = some d) (hd : (match d with | .struct _ | .array _ _ => true | _ => false) = true) (hi : (P.info? ty).map (·.size) = some cs.size) :
    (loadVar ty ⟨b, off, none⟩).run P w = .ok (.agg cs) w := by
  have hl : (loadCells ⟨b, off, none⟩ cs.toList.length).run P w = .ok cs.toList.toArray w :=
    run_loadCells_list (P := P) w ⟨b, off, none⟩ cs.toList (fun j v hv => by
      rw [Addr.add_lit]
      exact hc j v (by simpa using hv))
  cases hq : P.info? ty with
  | none => simp [hq] at hi
  | some i =>
    have hs : i.size = cs.size := by simpa [hq] using hi
    have hagg : (isAgg ty).run P w = .ok true w := by
      unfold isAgg
      rw [Sem.run_bind, run_underlying hu w]
      cases d <;> simp_all
    simp only [Array.length_toList, Array.toArray_toList] at hl
    simp [loadVar, Sem.run_bind, hagg, sizeOf, typeInfo, hq, hs, hl]
theorem wpList_load_at {P : Program} {ops : Array Oper} {rest : List Oper} {o : Oper} {a : Act} {w : World} {Q : Exit → Act → World → Prop} (hgd : o.guard = none) (ty : TypeId) (x : Operand) (ho : o.op = .load ty x)
    (b off : Nat) (hx : a.eval x = .pointer (some ⟨b, off, none⟩)) (cs : Array Value) (d : TypeDesc) (hc : ∀ j v, cs[j]? = some v → w.cell? ⟨b, off + j, none⟩ = some v)
    (hu : P.underlying ty = some d) (hd : (match d with | .struct _ | .array _ _ => true | _ => false) = true) (hi : (P.info? ty).map (·.size) = some cs.size)
    (h : wpList P ops Q rest (a.put o.dst (.agg cs)) w) : wpList P ops Q (o :: rest) a w := by
  refine wpList_plain hgd fun _ hK => ?_
  unfold Oper.wp execOp
  simp only [ho, hx, Instr.loadAt, Instr.sureAddr, Sem.run_bind, Sem.run_pure, Result.andThen_ok, run_loadVar_at w b off ty cs d hc hu hd hi]
  exact hK _ _ h
/-- likewise, as an operation of a region that draws its order -/
theorem load_at {P : Program} {o : Oper} {a : Act} {w : World} {ty : TypeId} {x : Operand} {b off : Nat} {cs : Array Value} {d : TypeDesc} (ho : o.op = .load ty x) (hx : a.eval x = .pointer (some ⟨b, off, none⟩))
    (hc : ∀ j v, cs[j]? = some v → w.cell? ⟨b, off + j, none⟩ = some v) (hu : P.underlying ty = some d) (hd : (match d with | .struct _ | .array _ _ => true | _ => false) = true) (hi : (P.info? ty).map (·.size) = some cs.size) :
    (execOp a.eval o).run P w = .ok (.value (.agg cs)) w := by
  unfold execOp
  simp only [ho, hx, Instr.loadAt, Instr.sureAddr, Sem.run_bind, Sem.run_pure, Result.andThen_ok, run_loadVar_at w b off ty cs d hc hu hd hi]
theorem wpList_want {P : Program} {ops : Array Oper} {rest : List Oper} {o : Oper} {a : Act} {w : World} {Q : Exit → Act → World → Prop} (hw : Region.wanted o (yielded ops a.tmps) = true)
    (h : ∀ K : Act → World → Prop, (∀ a w, wpList P ops Q rest a w → K a w) → o.wp P a w K Q) : wpList P ops Q (o :: rest) a w :=
  wpList_step fun K hK => by rw [hw, if_pos rfl]; exact h K hK
theorem wpList_load_rowG {P : Program} {ops : Array Oper} {rest : List Oper} {o : Oper} {a : Act} {w : World} {Q : Exit → Act → World → Prop} (hw : Region.wanted o (yielded ops a.tmps) = true) (ty : TypeId) (x : Operand) (ho : o.op = .load ty x)
    (g : Nat) (hx : a.eval x = .pointer (some ⟨g, 0, none⟩)) (t : TypeId) (cs : Array Value) (d : TypeDesc) (hg : w.heap[g]? = some (.cells cs t))
    (hu : P.underlying ty = some d) (hd : (match d with | .struct _ | .array _ _ => true | _ => false) = true) (hi : (P.info? ty).map (·.size) = some cs.size)
    (h : wpList P ops Q rest (a.put o.dst (.agg cs)) w) : wpList P ops Q (o :: rest) a w :=
  wpList_want hw fun _ hK => wp_load_row ty x ho g hx t cs (0, 0) d hg hu hd hi (hK _ _ h)
theorem load_part {P : Program} {o : Oper} {a : Act} {w : World} {ty : TypeId} {x : Operand} {b off : Nat} {cs : Array Value} {d : TypeDesc} (ho : o.op = .load ty x)
    (hx : a.eval x = .pointer (some ⟨b, off, none⟩)) (hc : ∀ j v, cs[j]? = some v → w.cell? ⟨b, off + j, none⟩ = some v)
    (hu : P.underlying ty = some d) (hd : (match d with | .struct _ | .array _ _ => true | _ => false) = true) (hi : (P.info? ty).map (·.size) = some cs.size) :
    (execOp a.eval o).run P w = .ok (.value (.agg cs)) w := by
  unfold execOp
  simp only [ho, hx, Instr.loadAt, Instr.sureAddr, Sem.run_bind, Sem.run_pure, Result.andThen_ok, run_loadVar_at w b off ty cs d hc hu hd hi]
/-- the same at a guard -/
theorem wpList_load_atG {P : Program} {ops : Array Oper} {rest : List Oper} {o : Oper} {a : Act} {w : World} {Q : Exit → Act → World → Prop} (hw : Region.wanted o (yielded ops a.tmps) = true) (ty : TypeId) (x : Operand) (ho : o.op = .load ty x)
    (b off : Nat) (hx : a.eval x = .pointer (some ⟨b, off, none⟩)) (cs : Array Value) (d : TypeDesc) (hc : ∀ j v, cs[j]? = some v → w.cell? ⟨b, off + j, none⟩ = some v)
    (hu : P.underlying ty = some d) (hd : (match d with | .struct _ | .array _ _ => true | _ => false) = true) (hi : (P.info? ty).map (·.size) = some cs.size)
    (h : wpList P ops Q rest (a.put o.dst (.agg cs)) w) : wpList P ops Q (o :: rest) a w :=
  wpList_want hw fun _ hK => by
    unfold Oper.wp execOp
    simp only [ho, hx, Instr.loadAt, Instr.sureAddr, Sem.run_bind, Sem.run_pure, Result.andThen_ok, run_loadVar_at w b off ty cs d hc hu hd hi]
    exact hK _ _ h
end Go.Proofs.Own

namespace Go.Proofs.Ytkfohickmdkplaa
open Go.RowKit Go.Proofs.Leb Go.Proofs.Own Go.Proofs.Cur
set_option maxRecDepth 100000
set_option maxHeartbeats 4000000

/-- what the walk of Comes is handed of a want -/
structure WantOk (x : Wnt) (pv : Value) (w : World) : Prop where
  fine : x.Fine
  kind : x.kind = 0 ∨ x.kind = 1 ∨ x.kind = 2 ∨ x.kind = 3
  rd : RdK w pv x.picks
  few : x.picks.length ≤ 1000000
  pos : ∀ y ∈ x.picks, 0 ≤ y.2.1
  num : ∀ y ∈ x.picks, y.1 < 18446744073709551616
theorem WantOk.new {x : Wnt} {pv : Value} {w w' : World} (h : WantOk x pv w) (hn : New w w') : WantOk x pv w' := ⟨h.fine, h.kind, h.rd.new hn, h.few, h.pos, h.num⟩
theorem WantOk.may {x : Wnt} {pv : Value} {w : World} (h : WantOk x pv w) (n : Nat) (r : Int) (hr1 : r ≤ 1099511627776) :
    Calls Try.prog 62 #[.agg (valW x pv), .int .u64 n, .int .i64 r] w (Yes (x.may r n) w) := May_any x pv n r w h.fine h.rd h.few h.pos hr1

theorem Comes_neg (x : Wnt) (pv : Value) (low s left r : Int) (w : World) (h : r < 0) :
    Calls Try.prog 63 #[.agg (valW x pv), .int .u64 low, .int .i64 s, .int .i64 left, .int .i64 r] w fun e w' => e = .returned (.bool false) ∧ New w w' := by
  unfold valW
  go_enter Try.func63, Try.ntmps63
  go_wp2_with fail
  go_ret
  exact ⟨rfl, (Upd.refl _ _).alloc _⟩

theorem infoW : (Try.prog.info? 47).map (·.size) = some 10 := by kernel_rfl
theorem comes_fin (x : Wnt) (r : Int) (low k left v0 v1 S Lf : Nat) (hS : 128 ^ k = S) (hL : 128 ^ left = Lf) (hlow : low < S) (hL0 : 0 < Lf) (hle : x.Least r v0) (hv : v0 < 4294967296 → v1 = nextUp v0 S low) :
    (v1 / S / Lf = 0 ∧ x.may r v1) ↔ fits x.may low k left r := by
  have hdiv : ∀ z : Nat, z / Lf = 0 ↔ z < Lf := fun z => by rw [Nat.div_eq_zero_iff]; omega
  rw [hdiv]
  by_cases hb : v0 < 4294967296
  · rw [hv hb, fits_least (by rw [hS]; exact hlow) hle, hS, hL]
  · have hno : ∀ n : Nat, ¬ x.may r n := fun n h => by
      have h1 := hle.2.1 n h
      have h2 := h.2.1
      omega
    constructor
    · rintro ⟨_, h⟩; exact (hno _ h).elim
    · rintro ⟨n, h, _⟩; exact (hno _ h).elim
theorem v1_low {v0 S low m : Nat} (hm : v0 % S = m) (hml : m ≤ low) (hl : low < 268435456) (hb : v0 < 4294967296) : (IntKind.u64.wrap ((v0 : Int) - m + low)).toNat = nextUp v0 S low ∧ (v0 : Int) - m + low = ((IntKind.u64.wrap ((v0 : Int) - m + low)).toNat : Int) := by
  have : m ≤ v0 := by rw [← hm]; exact Nat.mod_le _ _
  have e := IntWalk.u64_in ((v0 : Int) - m + low) (by omega)
  rw [e]
  unfold nextUp
  rw [hm, if_pos hml]
  omega
theorem v1_high {v0 S low m : Nat} (hm : v0 % S = m) (hml : ¬ m ≤ low) (hl : low < 268435456) (hS : S ≤ 268435456) (hb : v0 < 4294967296) : (IntKind.u64.wrap ((v0 : Int) - m + S + low)).toNat = nextUp v0 S low ∧ (v0 : Int) - m + S + low = ((IntKind.u64.wrap ((v0 : Int) - m + S + low)).toNat : Int) := by
  have : m ≤ v0 := by rw [← hm]; exact Nat.mod_le _ _
  have e := IntWalk.u64_in ((v0 : Int) - m + S + low) (by omega)
  rw [e]
  unfold nextUp
  rw [hm, if_neg hml]
  omega

theorem Comes_row (x : Wnt) (pv : Value) (low k left : Nat) (r : Int) (w : World) (hx : WantOk x pv w) (hk : x.kind = 0 ∨ x.kind = 1 ∨ x.kind = 2) (h0 : 0 ≤ r) (hr : r ≤ 1099511627776) (hk4 : k ≤ 4) (hl4 : left ≤ 4) (hlow : low < 128 ^ k) :
    Calls Try.prog 63 #[.agg (valW x pv), .int .u64 low, .int .i64 (7 * k : Nat), .int .i64 left, .int .i64 r] w (Yes (fits x.may low k left r) w) := by
  have HM := hid (fun (n : Nat) w' (hn : New w w') => (hx.new hn).may n r hr)
  have HLE := hid (fun w => least_any x pv r w hk hx.fine h0 hr)
  obtain ⟨s, hs⟩ : ∃ s, 7 * k = s := ⟨_, rfl⟩
  rw [hs]
  obtain ⟨S, hS⟩ : ∃ S, 2 ^ s = S := ⟨_, rfl⟩
  obtain ⟨Lf, hLf⟩ : ∃ Lf, 2 ^ (7 * left) = Lf := ⟨_, rfl⟩
  have hS2 : 128 ^ k = S := by rw [pow128, hs, hS]
  have hL2 : 128 ^ left = Lf := by rw [pow128, hLf]
  rw [hS2] at hlow
  have S0 : 0 < S := by rw [← hS]; exact Nat.pow_pos (by decide)
  have S1 : S ≤ 268435456 := by rw [← hS]; have : (2 : Nat) ^ s ≤ 2 ^ 28 := Nat.pow_le_pow_right (by decide) (by omega); have h2 : (2 : Nat) ^ 28 = 268435456 := by decide
                                omega
  have L0 : 0 < Lf := by rw [← hLf]; exact Nat.pow_pos (by decide)
  have L1 : Lf ≤ 268435456 := by rw [← hLf]; have : (2 : Nat) ^ (7 * left) ≤ 2 ^ 28 := Nat.pow_le_pow_right (by decide) (by omega); have h2 : (2 : Nat) ^ 28 = 268435456 := by decide
                                 omega
  have i1 : (2 : Int) ^ s = S := by rw [← hS]; simp
  have i2 : (2 : Int) ^ (7 * left) = Lf := by rw [← hLf]; simp
  have s28 : s ≤ 28 := by omega
  have k3 : (x.kind == 3) = false := by rw [beq_eq_false_iff_ne]; omega
  have HFL := hid (fun v0 v1 (h : x.Least r v0) hv => comes_fin x r low k left v0 v1 S Lf hS2 hL2 hlow (by rw [← hL2]; exact Nat.pow_pos (by decide)) h hv)
  have I1 := hid i1
  have I2 := hid i2
  clear hx hk hs hS hLf hS2 hL2
  obtain ⟨kind, lo, hi, i1', i2', o1, o2, b1, b2, ps⟩ := x
  unfold valW at HM HLE ⊢
  simp only at k3
  go_enter Try.func63, Try.ntmps63
  go_wp2_with fail
  refine (HLE.out _).mono ?_
  rintro e w1 ⟨v0, rfl, hle, hn1⟩
  have hnb : New w (w.alloc (.cells #[.int .i64 kind, .int .u64 lo, .int .u64 hi, .int .i64 i1', .int .i64 i2', .int .i64 o1, .int .i64 o2, .int .i64 b1, .int .i64 b2, pv] 47)) := (Upd.refl _ _).alloc _
  have HN1 := hid (New.trans hnb hn1)
  have hbx : w1.heap[w.heap.size]? = some (.cells #[.int .i64 kind, .int .u64 lo, .int .u64 hi, .int .i64 i1', .int .i64 i2', .int .i64 o1, .int .i64 o2, .int .i64 b1, .int .i64 b2, pv] 47) := (hn1.block _ (by simp) (fun h => h)).trans (hp_new rfl)
  have HBX := hid hbx
  have HLE2 := hid hle
  have v064 := hle.1
  clear hle hn1 hnb hbx
  obtain ⟨m, hm⟩ : ∃ m, v0 % S = m := ⟨_, rfl⟩
  have em : (v0 : Int) % (S : Int) = (m : Int) := by rw [← hm]; exact (Int.natCast_emod _ _).symm
  have hmS : m < S := by rw [← hm]; exact Nat.mod_lt _ S0
  have hmv : m ≤ v0 := by rw [← hm]; exact Nat.mod_le _ _
  have HMM := hid hm
  clear hm
  by_cases hml : m ≤ low
  · have hml' : (m : Int) ≤ (low : Int) := by omega
    obtain ⟨v1, hv1⟩ : ∃ v1, (IntKind.u64.wrap ((v0 : Int) - m + low)).toNat = v1 := ⟨_, rfl⟩
    have ew : IntKind.u64.wrap ((v0 : Int) - m + low) = (v1 : Int) := by rw [← hv1, IntKind.wrap_u64]; omega
    have ez : v0 < 4294967296 → (v0 : Int) - m + low = (v1 : Int) := fun hb => by rw [← hv1]; exact (v1_low HMM.out hml (by omega) hb).2
    have HF2 := hid (HFL.out v0 v1 HLE2.out (fun hb => by rw [← hv1]; exact (v1_low HMM.out hml (by omega) hb).1))
    obtain ⟨q1, hq1⟩ : ∃ q1, v1 / S = q1 := ⟨_, rfl⟩
    obtain ⟨q2, hq2⟩ : ∃ q2, q1 / Lf = q2 := ⟨_, rfl⟩
    have e1 : (v1 : Int) / (S : Int) = (q1 : Int) := by rw [← hq1]; exact (Int.natCast_ediv _ _).symm
    have e2 : (q1 : Int) / (Lf : Int) = (q2 : Int) := by rw [← hq2]; exact (Int.natCast_ediv _ _).symm
    rw [hq1, hq2] at HF2
    have EZ := hid ez
    clear hv1 hq1 hq2 ez
    by_cases hbig : v0 < 4294967296
    all_goals
      first | (have ez := EZ.out hbig) | skip
      by_cases hq : q2 = 0
      · have hqb : ((q2 : Int) == 0) = true := by rw [beq_iff_eq]; omega
        have hqi : (q2 : Int) = 0 := by omega
        have HQ := hid hq
        clear hq
        go_wp2_with (refine wpList_load_rowG rfl 47 _ rfl w.heap.size rfl 47 #[.int .i64 kind, .int .u64 lo, .int .u64 hi, .int .i64 i1', .int .i64 i2', .int .i64 o1, .int .i64 o2, .int .i64 b1, .int .i64 b2, pv] _ HBX.out Try.underlying47 rfl infoW ?_)
        refine (HM.out v1 _ HN1.out).mono ?_
        rintro e w2 ⟨b, rfl, hb, hn2⟩
        have HB := hid hb
        have HN2 := hid (New.trans HN1.out hn2)
        clear hb hn2
        go_wp2_with fail
        go_ret
        exact ⟨b, rfl, by rw [HB.out, ← HF2.out]; simp [HQ.out], HN2.out⟩
      · have hqb : ((q2 : Int) == 0) = false := by rw [beq_eq_false_iff_ne]; omega
        have HQ := hid hq
        clear hq
        go_wp2_with fail
        go_ret
        exact ⟨false, rfl, by rw [← HF2.out]; simp [HQ.out], HN1.out⟩
  · have hml' : ¬ (m : Int) ≤ (low : Int) := by omega
    obtain ⟨v1, hv1⟩ : ∃ v1, (IntKind.u64.wrap ((v0 : Int) - m + S + low)).toNat = v1 := ⟨_, rfl⟩
    have ew : IntKind.u64.wrap ((v0 : Int) - m + S + low) = (v1 : Int) := by rw [← hv1, IntKind.wrap_u64]; omega
    have ew2 : IntKind.u64.wrap (IntKind.u64.wrap ((v0 : Int) - m + S) + low) = (v1 : Int) := by rw [← ew, IntKind.wrap_u64, IntKind.wrap_u64, IntKind.wrap_u64]; omega
    have ez : v0 < 4294967296 → (v0 : Int) - m + S + low = (v1 : Int) := fun hb => by rw [← hv1]; exact (v1_high HMM.out hml (by omega) S1 hb).2
    have HF2 := hid (HFL.out v0 v1 HLE2.out (fun hb => by rw [← hv1]; exact (v1_high HMM.out hml (by omega) S1 hb).1))
    obtain ⟨q1, hq1⟩ : ∃ q1, v1 / S = q1 := ⟨_, rfl⟩
    obtain ⟨q2, hq2⟩ : ∃ q2, q1 / Lf = q2 := ⟨_, rfl⟩
    have e1 : (v1 : Int) / (S : Int) = (q1 : Int) := by rw [← hq1]; exact (Int.natCast_ediv _ _).symm
    have e2 : (q1 : Int) / (Lf : Int) = (q2 : Int) := by rw [← hq2]; exact (Int.natCast_ediv _ _).symm
    rw [hq1, hq2] at HF2
    have EZ := hid ez
    clear hv1 hq1 hq2 ez
    by_cases hbig : v0 < 4294967296
    all_goals
      first | (have ez := EZ.out hbig) | skip
      by_cases hq : q2 = 0
      · have hqb : ((q2 : Int) == 0) = true := by rw [beq_iff_eq]; omega
        have hqi : (q2 : Int) = 0 := by omega
        have HQ := hid hq
        clear hq
        go_wp2_with (refine wpList_load_rowG rfl 47 _ rfl w.heap.size rfl 47 #[.int .i64 kind, .int .u64 lo, .int .u64 hi, .int .i64 i1', .int .i64 i2', .int .i64 o1, .int .i64 o2, .int .i64 b1, .int .i64 b2, pv] _ HBX.out Try.underlying47 rfl infoW ?_)
        refine (HM.out v1 _ HN1.out).mono ?_
        rintro e w2 ⟨b, rfl, hb, hn2⟩
        have HB := hid hb
        have HN2 := hid (New.trans HN1.out hn2)
        clear hb hn2
        go_wp2_with fail
        go_ret
        exact ⟨b, rfl, by rw [HB.out, ← HF2.out]; simp [HQ.out], HN2.out⟩
      · have hqb : ((q2 : Int) == 0) = false := by rw [beq_eq_false_iff_ne]; omega
        have HQ := hid hq
        clear hq
        go_wp2_with fail
        go_ret
        exact ⟨false, rfl, by rw [← HF2.out]; simp [HQ.out], HN1.out⟩

theorem Comes_picks (x : Wnt) (pv : Value) (low k left : Nat) (r : Int) (w : World) (hx : WantOk x pv w) (hk : x.kind = 3) (h0 : 0 ≤ r) (hr : r ≤ 1099511627776) (hk4 : k ≤ 4) (hl4 : left ≤ 4) :
    Calls Try.prog 63 #[.agg (valW x pv), .int .u64 low, .int .i64 (7 * k : Nat), .int .i64 left, .int .i64 r] w (Yes (fits x.may low k left r) w) := by
  have HM := hid (fun (n : Nat) w' (hn : New w w') => (hx.new hn).may n r hr)
  have HP := hid hx.rd
  have HNB := hid hx.num
  have hfew := hx.few
  obtain ⟨s, hs⟩ : ∃ s, 7 * k = s := ⟨_, rfl⟩
  rw [hs]
  obtain ⟨S, hS⟩ : ∃ S, 2 ^ s = S := ⟨_, rfl⟩
  obtain ⟨Lf, hLf⟩ : ∃ Lf, 2 ^ (7 * left) = Lf := ⟨_, rfl⟩
  have hS2 : 128 ^ k = S := by rw [pow128, hs, hS]
  have hL2 : 128 ^ left = Lf := by rw [pow128, hLf]
  have S0 : 0 < S := by rw [← hS]; exact Nat.pow_pos (by decide)
  have S1 : S ≤ 268435456 := by rw [← hS]; have : (2 : Nat) ^ s ≤ 2 ^ 28 := Nat.pow_le_pow_right (by decide) (by omega); have h2 : (2 : Nat) ^ 28 = 268435456 := by decide
                                omega
  have L0 : 0 < Lf := by rw [← hLf]; exact Nat.pow_pos (by decide)
  have i1 : (2 : Int) ^ s = S := by rw [← hS]; simp
  have i2 : (2 : Int) ^ (7 * left) = Lf := by rw [← hLf]; simp
  have s28 : s ≤ 28 := by omega
  have HFIT : Hid (fits x.may low k left r ↔ ∃ y ∈ x.picks, y.1 % S = low ∧ y.1 / S / Lf = 0 ∧ x.may r y.1) := by
    show _ ↔ _
    have hdiv : ∀ z : Nat, z / Lf = 0 ↔ z < Lf := fun z => by rw [Nat.div_eq_zero_iff]; omega
    unfold fits
    rw [hS2, hL2]
    constructor
    · rintro ⟨n, h1, h2, h3, h4⟩
      have h1' := h1
      unfold Wnt.may at h1'
      rw [if_neg (by omega), if_neg (by omega), if_neg (by omega)] at h1'
      obtain ⟨-, -, y, hy, rfl, -⟩ := h1'
      exact ⟨y, hy, h3, by rw [hdiv]; exact h4, h1⟩
    · rintro ⟨y, hy, h1, h2, h3⟩
      exact ⟨y.1, h3, h3.2.1, h1, by rw [← hdiv]; exact h2⟩
  clear hx hs hS hLf hS2 hL2
  obtain ⟨kind, lo, hi, i1', i2', o1, o2, b1, b2, ps⟩ := x
  simp only at hk
  subst hk
  obtain ⟨ao, cap, rfl⟩ := HP.out.shape
  unfold valW at HM ⊢
  simp only at *
  go_enter Try.func63, Try.ntmps63
  go_wp2_with fail
  have hn1 : New w (w.alloc (.cells #[.int .i64 3, .int .u64 lo, .int .u64 hi, .int .i64 i1', .int .i64 i2', .int .i64 o1, .int .i64 o2, .int .i64 b1, .int .i64 b2, .slice ao ps.length cap] 47)) := (Upd.refl _ _).alloc _
  have hbx : (w.alloc (.cells #[.int .i64 3, .int .u64 lo, .int .u64 hi, .int .i64 i1', .int .i64 i2', .int .i64 o1, .int .i64 o2, .int .i64 b1, .int .i64 b2, .slice ao ps.length cap] 47)).heap[w.heap.size]? = some (.cells #[.int .i64 3, .int .u64 lo, .int .u64 hi, .int .i64 i1', .int .i64 i2', .int .i64 o1, .int .i64 o2, .int .i64 b1, .int .i64 b2, .slice ao ps.length cap] 47) := hp_new rfl
  have hsz : w.heap.size < (w.alloc (.cells #[.int .i64 3, .int .u64 lo, .int .u64 hi, .int .i64 i1', .int .i64 i2', .int .i64 o1, .int .i64 o2, .int .i64 b1, .int .i64 b2, .slice ao ps.length cap] 47)).heap.size := by simp
  have c9 : (w.alloc (.cells #[.int .i64 3, .int .u64 lo, .int .u64 hi, .int .i64 i1', .int .i64 i2', .int .i64 o1, .int .i64 o2, .int .i64 b1, .int .i64 b2, .slice ao ps.length cap] 47)).cell? ⟨w.heap.size, 9, none⟩ = some (.slice ao ps.length cap) := by simp
  generalize w.alloc (.cells #[.int .i64 3, .int .u64 lo, .int .u64 hi, .int .i64 i1', .int .i64 i2', .int .i64 o1, .int .i64 o2, .int .i64 b1, .int .i64 b2, .slice ao ps.length cap] 47) = w1 at *
  have HP1 := hid (HP.out.new hn1)
  have C9 := hid c9
  have HN1 := hid hn1
  have HBX := hid hbx
  clear hn1 c9 hbx
  go_loopw [12, 13] (fun a _ wr => ∃ i : Nat, a = .int .i64 i ∧ i ≤ ps.length ∧ New w1 wr ∧ ∀ j (_ : j < i) (hj : j < ps.length), ¬ (ps[j].1 % S = low ∧ ps[j].1 / S / Lf = 0 ∧ Wnt.may ⟨3, lo, hi, i1', i2', o1, o2, b1, b2, ps⟩ r ps[j].1)) (fun a _ _ => ps.length - (intOf a).toNat)
  case atStart => exact ⟨0, rfl, Nat.zero_le _, Upd.refl _ _, fun j h => absurd h (Nat.not_lt_zero _)⟩
  case round =>
    obtain ⟨i, rfl, hi1, hw, hno⟩ := hrel
    have HW := hid hw
    have HNO := hid hno
    have c9 := hw.cell C9.out (fun h => h)
    have HBX2 : Hid (wr.heap[w.heap.size]? = some (.cells #[.int .i64 3, .int .u64 lo, .int .u64 hi, .int .i64 i1', .int .i64 i2', .int .i64 o1, .int .i64 o2, .int .i64 b1, .int .i64 b2, .slice ao ps.length cap] 47)) := (hw.block _ hsz (fun h => h)).trans HBX.out
    clear hw hno
    by_cases hlt : i < ps.length
    · obtain ⟨_, _, e, _, _, hcell⟩ := HP1.out
      obtain ⟨bl, of, rfl, hcl⟩ := hcell (by intro h; subst h; simp at hlt)
      cases e
      have d0 := HW.out.cell (hcl i hlt).1 (fun h => h)
      have hvb := HNB.out ps[i] (List.getElem_mem _)
      have HNX : Hid (¬ (ps[i].1 % S = low ∧ ps[i].1 / S / Lf = 0 ∧ Wnt.may ⟨3, lo, hi, i1', i2', o1, o2, b1, b2, ps⟩ r ps[i].1) → ∀ j (_ : j < i + 1) (hj : j < ps.length), ¬ (ps[j].1 % S = low ∧ ps[j].1 / S / Lf = 0 ∧ Wnt.may ⟨3, lo, hi, i1', i2', o1, o2, b1, b2, ps⟩ r ps[j].1)) := by
        intro h j h1 h2
        rcases Nat.lt_or_ge j i with h3 | h3
        · exact HNO.out j h3 h2
        · have : j = i := by omega
          subst this
          exact h
      have HYES : Hid ((ps[i].1 % S = low ∧ ps[i].1 / S / Lf = 0 ∧ Wnt.may ⟨3, lo, hi, i1', i2', o1, o2, b1, b2, ps⟩ r ps[i].1) → ∃ y ∈ ps, y.1 % S = low ∧ y.1 / S / Lf = 0 ∧ Wnt.may ⟨3, lo, hi, i1', i2', o1, o2, b1, b2, ps⟩ r y.1) := fun h => ⟨ps[i], List.getElem_mem _, h⟩
      obtain ⟨V, hV⟩ : ∃ V, ps[i].1 = V := ⟨_, rfl⟩
      rw [hV] at d0 HNX HYES hvb
      have HMV := hid (HM.out V)
      obtain ⟨m, hm⟩ : ∃ m, V % S = m := ⟨_, rfl⟩
      obtain ⟨q1, hq1⟩ : ∃ q1, V / S = q1 := ⟨_, rfl⟩
      obtain ⟨q2, hq2⟩ : ∃ q2, q1 / Lf = q2 := ⟨_, rfl⟩
      have em : (V : Int) % (S : Int) = (m : Int) := by rw [← hm]; exact (Int.natCast_emod _ _).symm
      have e1 : (V : Int) / (S : Int) = (q1 : Int) := by rw [← hq1]; exact (Int.natCast_ediv _ _).symm
      have e2 : (q1 : Int) / (Lf : Int) = (q2 : Int) := by rw [← hq2]; exact (Int.natCast_ediv _ _).symm
      rw [hm, hq1, hq2] at HNX HYES
      clear hV hm hq1 hq2 hcl hcell
      by_cases hv : m = low
      · have hmb : ((m : Int) == (low : Int)) = true := by rw [beq_iff_eq]; omega
        have HV := hid hv
        clear hv
        by_cases hq : q2 = 0
        · have hqb : ((q2 : Int) == 0) = true := by rw [beq_iff_eq]; omega
          have hqi : (q2 : Int) = 0 := by omega
          have HQ := hid hq
          clear hq
          go_wp2_with (refine wpList_load_rowG rfl 47 _ rfl w.heap.size rfl 47 #[.int .i64 3, .int .u64 lo, .int .u64 hi, .int .i64 i1', .int .i64 i2', .int .i64 o1, .int .i64 o2, .int .i64 b1, .int .i64 b2, .slice (some ⟨bl, of, none⟩) ps.length cap] _ HBX2.out Try.underlying47 rfl infoW ?_)
          refine (HMV.out _ (New.trans HN1.out HW.out)).mono ?_
          rintro e w3 ⟨b, rfl, hb, hn3⟩
          have HB := hid hb
          have HN3 := hid (New.trans HW.out hn3)
          clear hb hn3
          cases b with
          | true =>
            go_wp2_with fail
            go_ret
            exact ⟨true, rfl, by rw [HFIT.out]; simp only [true_iff]; exact HYES.out ⟨HV.out, HQ.out, HB.out.1 (by first | rfl | trivial)⟩, New.trans HN1.out HN3.out⟩
          | false =>
            go_wp2_with fail
            go_roundw
            case rel => exact ⟨i + 1, by go_num, by omega, HN3.out, HNX.out (fun h => by have := HB.out.2 h.2.2; simp at this)⟩
            case measure => simp [intOf]; omega
        · have hqb : ((q2 : Int) == 0) = false := by rw [beq_eq_false_iff_ne]; omega
          have HQ := hid hq
          clear hq
          go_wp2_with fail
          go_roundw
          case rel => exact ⟨i + 1, by go_num, by omega, HW.out, HNX.out (fun h => HQ.out h.2.1)⟩
          case measure => simp [intOf]; omega
      · have hmb : ((m : Int) == (low : Int)) = false := by rw [beq_eq_false_iff_ne]; omega
        have HV := hid hv
        clear hv
        go_wp2_with fail
        go_roundw
        case rel => exact ⟨i + 1, by go_num, by omega, HW.out, HNX.out (fun h => HV.out h.1)⟩
        case measure => simp [intOf]; omega
    · go_wp2_with fail
      go_ret
      refine ⟨false, rfl, ?_, New.trans HN1.out HW.out⟩
      rw [HFIT.out]
      simp only [Bool.false_eq_true, false_iff]
      rintro ⟨y, hy, hh⟩
      obtain ⟨j, hj, rfl⟩ := List.mem_iff_getElem.mp hy
      exact HNO.out j (by omega) hj hh

/-- may a number come out? whatever the want -/
theorem Comes_any (x : Wnt) (pv : Value) (low k left : Nat) (r : Int) (w : World) (hx : WantOk x pv w) (hr : r ≤ 1099511627776) (hk4 : k ≤ 4) (hl4 : left ≤ 4) (hlow : low < 128 ^ k) :
    Calls Try.prog 63 #[.agg (valW x pv), .int .u64 low, .int .i64 (7 * k : Nat), .int .i64 left, .int .i64 r] w (Yes (fits x.may low k left r) w) := by
  by_cases h0 : r < 0
  · refine (Comes_neg x pv low _ left r w h0).mono ?_
    rintro e w' ⟨rfl, hn⟩
    refine ⟨false, rfl, ?_, hn⟩
    simp only [Bool.false_eq_true, false_iff]
    rintro ⟨n, h, _⟩
    have := h.1
    omega
  · rcases hx.kind with h | h | h | h
    · exact Comes_row x pv low k left r w hx (.inl h) (by omega) hr hk4 hl4 hlow
    · exact Comes_row x pv low k left r w hx (.inr (.inl h)) (by omega) hr hk4 hl4 hlow
    · exact Comes_row x pv low k left r w hx (.inr (.inr h)) (by omega) hr hk4 hl4 hlow
    · exact Comes_picks x pv low k left r w hx h (by omega) hr hk4 hl4
end Go.Proofs.Ytkfohickmdkplaa

namespace Go.Proofs.Ytkfohickmdkplaa
open Go.RowKit Go.Proofs.Leb Go.Proofs.Own Go.Proofs.Cur
set_option maxRecDepth 100000
set_option maxHeartbeats 2000000

theorem drewN_new (w : World) (n : Nat) : New w (w.drewN n) := ⟨rfl, rfl, rfl, Nat.le_refl _, fun _ _ _ => rfl⟩

/-- what a cursor panics with -/
def gave (C : Nat) : Value := .iface 56 (.agg #[.pointer (some ⟨C, 0, none⟩)])

theorem Rd.upd2 {S : Nat → Prop} {w w' : World} {v : Value} {bs : List UInt8} (h : Rd w v bs) (hu : Upd S w w') (hn : bs ≠ [] → ∀ k, v.ownBlock = some k → ¬ S k) : Rd w' v bs := by
  by_cases hb : bs = []
  · obtain ⟨a, cap, rfl, h1, h2, -⟩ := h
    exact ⟨a, cap, rfl, h1, h2, fun h => absurd hb h⟩
  · exact h.upd hu (hn hb)
theorem Rd.there {w : World} {v : Value} {bs : List UInt8} (h : Rd w v bs) (hb : bs ≠ []) : ∀ k, v.ownBlock = some k → k < w.heap.size := by
  obtain ⟨a, cap, rfl, h1, h2, h3⟩ := h
  obtain ⟨b, o, rfl, hc⟩ := h3 hb
  rintro k hk
  cases hk
  exact World.block_lt_of_cell? w _ (hc 0 (List.length_pos_iff.2 hb))

/-- a cursor in its block -/
structure Cur (w : World) (C : Nat) (v : Value) (bs : List UInt8) (p : Nat) (lim : Int) (er : Nat) : Prop where
  blk : w.heap[C]? = some (.cells #[v, .int .i64 p, .int .i64 lim, .int .i64 er] 54)
  rd : Rd w v bs
  apart : bs ≠ [] → v.ownBlock ≠ some C

theorem Cur.lt {w : World} {C : Nat} {v : Value} {bs : List UInt8} {p : Nat} {lim : Int} {er : Nat} (h : Cur w C v bs p lim er) : C < w.heap.size := (Array.getElem?_eq_some_iff.1 h.blk).1
theorem Cur.c0 {w : World} {C : Nat} {v : Value} {bs : List UInt8} {p : Nat} {lim : Int} {er : Nat} (h : Cur w C v bs p lim er) : w.cell? ⟨C, 0, none⟩ = some v := by
  rw [cell_of_row _ C 0 _ _ (0, 0) h.blk]; rfl
theorem Cur.c1 {w : World} {C : Nat} {v : Value} {bs : List UInt8} {p : Nat} {lim : Int} {er : Nat} (h : Cur w C v bs p lim er) : w.cell? ⟨C, 1, none⟩ = some (.int .i64 p) := by
  rw [cell_of_row _ C 1 _ _ (0, 0) h.blk]; rfl
theorem Cur.c2 {w : World} {C : Nat} {v : Value} {bs : List UInt8} {p : Nat} {lim : Int} {er : Nat} (h : Cur w C v bs p lim er) : w.cell? ⟨C, 2, none⟩ = some (.int .i64 lim) := by
  rw [cell_of_row _ C 2 _ _ (0, 0) h.blk]; rfl
theorem Cur.c3 {w : World} {C : Nat} {v : Value} {bs : List UInt8} {p : Nat} {lim : Int} {er : Nat} (h : Cur w C v bs p lim er) : w.cell? ⟨C, 3, none⟩ = some (.int .i64 er) := by
  rw [cell_of_row _ C 3 _ _ (0, 0) h.blk]; rfl
theorem Cur.f {w : World} {C : Nat} {v : Value} {bs : List UInt8} {p : Nat} {lim : Int} {er : Nat} (h : Cur w C v bs p lim er) (i : Nat) : w.frozen? ⟨C, i, none⟩ = false := by
  have := h.blk
  simp [World.frozen?, this]
theorem Cur.upd {w w' : World} {C : Nat} {v : Value} {bs : List UInt8} {p : Nat} {lim : Int} {er : Nat} {S : Nat → Prop} (h : Cur w C v bs p lim er) (hu : Upd S w w') (hC : ¬ S C) (hv : bs ≠ [] → ∀ k, v.ownBlock = some k → ¬ S k) : Cur w' C v bs p lim er :=
  ⟨(hu.block C h.lt hC).trans h.blk, h.rd.upd2 hu hv, h.apart⟩
theorem Cur.new {w w' : World} {C : Nat} {v : Value} {bs : List UInt8} {p : Nat} {lim : Int} {er : Nat} (h : Cur w C v bs p lim er) (hu : New w w') : Cur w' C v bs p lim er :=
  h.upd hu (fun h => h) (fun _ _ _ h => h)
/-- a write to the cursor's own block -/
theorem Cur.upd1 {w w' : World} {C : Nat} {v : Value} {bs : List UInt8} {p q : Nat} {lim lim' : Int} {er er' : Nat} (h : Cur w C v bs p lim er) (hu : Upd (· = C) w w')
    (hb : w'.heap[C]? = some (.cells #[v, .int .i64 q, .int .i64 lim', .int .i64 er'] 54)) : Cur w' C v bs q lim' er' :=
  ⟨hb, h.rd.upd2 hu (fun hne k e hk => h.apart hne (by rw [e, hk])), h.apart⟩
theorem updC (w : World) (C i : Nat) (u : Value) : Upd (· = C) w (w.setCell ⟨C, i, none⟩ u) := (Upd.refl (· = C) w).setCell (p := ⟨C, i, none⟩) (.inr rfl) u
theorem Cur.at1 {w : World} {C : Nat} {v : Value} {bs : List UInt8} {p : Nat} {lim : Int} {er : Nat} (h : Cur w C v bs p lim er) (q : Nat) :
    Cur (w.setCell ⟨C, 1, none⟩ (.int .i64 q)) C v bs q lim er ∧ Upd (· = C) w (w.setCell ⟨C, 1, none⟩ (.int .i64 q)) := by
  have hu : Upd (· = C) w (w.setCell ⟨C, 1, none⟩ (.int .i64 q)) := updC w C _ _
  refine ⟨h.upd1 hu ?_, hu⟩
  have := h.blk
  simp [World.setCell, Array.getElem?_modify, this]
theorem Cur.lim2 {w : World} {C : Nat} {v : Value} {bs : List UInt8} {p : Nat} {lim : Int} {er : Nat} (h : Cur w C v bs p lim er) (q : Int) :
    Cur (w.setCell ⟨C, 2, none⟩ (.int .i64 q)) C v bs p q er ∧ Upd (· = C) w (w.setCell ⟨C, 2, none⟩ (.int .i64 q)) := by
  have hu : Upd (· = C) w (w.setCell ⟨C, 2, none⟩ (.int .i64 q)) := updC w C _ _
  refine ⟨h.upd1 hu ?_, hu⟩
  have := h.blk
  simp [World.setCell, Array.getElem?_modify, this]
theorem Cur.up13 {w : World} {C : Nat} {v : Value} {bs : List UInt8} {p : Nat} {lim : Int} {er : Nat} (h : Cur w C v bs p lim er) (q er' : Nat) :
    Cur ((w.setCell ⟨C, 1, none⟩ (.int .i64 q)).setCell ⟨C, 3, none⟩ (.int .i64 er')) C v bs q lim er' ∧ Upd (· = C) w ((w.setCell ⟨C, 1, none⟩ (.int .i64 q)).setCell ⟨C, 3, none⟩ (.int .i64 er')) := by
  have hu : Upd (· = C) w ((w.setCell ⟨C, 1, none⟩ (.int .i64 q)).setCell ⟨C, 3, none⟩ (.int .i64 er')) := (updC w C 1 _).trans (updC _ C 3 _) (fun _ _ h => h)
  refine ⟨h.upd1 hu ?_, hu⟩
  have := h.blk
  simp [World.setCell, Array.getElem?_modify, this]

/-- a function value of the program is entered where it is called -/
def Enters (G : Nat) : Prop := ∀ args w, (callFunc G args).run Try.prog w = .ok (.enter G args) w

/-- a call of a function value -/
theorem upon_callv {o : Oper} {a : Act} {w : World} {K : Act → World → Prop} {Q : Exit → Act → World → Prop} {G : Nat} {args : Array Value} (hG : Enters G)
    {R : Ending → World → Prop} (hc : Calls Try.prog G args w R) (h : ∀ e w', R e w' → match e with
      | .returned v => K (a.put o.dst v) w'
      | .panicked ch => Q (.panic ch) a w'
      | .outgrown => LetsOut Q) : Oper.upon Try.prog o a K Q ((callFunc G args).run Try.prog w) := by
  rw [hG, Oper.upon_enter]
  refine hc.mono fun e w' hr => ?_
  have := h e w' hr
  cases e <;> exact this

/-- what comes of reading, in memory -/
def Got {α : Type} (C : Nat) (v : Value) (bs : List UInt8) (lim : Int) (V : α → Value) (o : Out α) (w : World) (e : Ending) (w' : World) : Prop :=
  Upd (· = C) w w' ∧ match o with
    | .ok a q => e = .returned (V a) ∧ Cur w' C v bs q lim 0
    | .up q er => e = .panicked [{ v := gave C, recovered := false }] ∧ Cur w' C v bs q lim er

theorem Rest_any {w : World} {C : Nat} {v : Value} {bs : List UInt8} {p : Nat} {lim : Int} {er : Nat} (h : Cur w C v bs p lim er) (hi : Inv bs.length lim p) :
    Calls Try.prog 19 #[.pointer (some ⟨C, 0, none⟩)] w fun e w' => e = .returned (.int .i64 (rest lim p)) ∧ New w w' := by
  have c1 := h.c1
  have c2 := h.c2
  have i1 := hi.place
  have i2 := hi.len
  have i3 := hi.lim
  by_cases hl : lim = -1
  · subst hl
    go_enter Try.func19, Try.ntmps19
    go_wp2
    go_ret
    exact ⟨rfl, Upd.refl _ _⟩
  · have hb : (lim == -1) = false := by simpa using hl
    have e : rest lim p = lim - p := by unfold rest; rw [if_neg hl]
    have HE := hid e
    have l1 : (p : Int) ≤ lim := by omega
    have l2 : lim ≤ p + 1099511627776 := by omega
    clear i3 hl e
    go_enter Try.func19, Try.ntmps19
    go_wp2_with fail
    go_quiet (fail)
    go_wp2_with fail
    go_ret
    exact ⟨by rw [HE.out]; rfl, drewN_new _ _⟩
theorem giveUp_any {w : World} {C : Nat} {v : Value} {bs : List UInt8} {p : Nat} {lim : Int} {er : Nat} (h : Cur w C v bs p lim er) (q er' : Nat) :
    Calls Try.prog 44 #[.pointer (some ⟨C, 0, none⟩), .int .i64 q, .int .i64 er'] w fun e w' =>
      e = .panicked [{ v := gave C, recovered := false }] ∧ Cur w' C v bs q lim er' ∧ Upd (· = C) w w' := by
  have c1 := h.c1
  have c3 := h.c3
  have f1 := h.f 1
  have f3 := h.f 3
  have HU := hid (h.up13 q er')
  go_enter Try.func44, Try.ntmps44
  go_wp2
  exact ⟨rfl, rfl, HU.out⟩
theorem goOn_any {w : World} {C : Nat} {v : Value} {bs : List UInt8} {p : Nat} {lim : Int} (h : Cur w C v bs p lim 0) :
    Calls Try.prog 43 #[.pointer (some ⟨C, 0, none⟩)] w fun e w' => e = .returned (.tuple #[]) ∧ w = w' := by
  have c3 := h.c3
  go_enter Try.func43, Try.ntmps43
  go_wp2
  go_end0
  exact ⟨rfl, rfl⟩
end Go.Proofs.Ytkfohickmdkplaa

namespace Go.Proofs.Ytkfohickmdkplaa
open Go.RowKit Go.Proofs.Leb Go.Proofs.Own Go.Proofs.Cur
set_option maxRecDepth 100000
set_option maxHeartbeats 2000000

theorem Got.mk_ok {α : Type} {C : Nat} {v : Value} {bs : List UInt8} {lim : Int} {V : α → Value} {o : Out α} {w : World} {e : Ending} {w' : World} {a : α} {q : Nat} (h : o = .ok a q)
    (hu : Upd (· = C) w w') (he : e = .returned (V a)) (hc : Cur w' C v bs q lim 0) : Got C v bs lim V o w e w' := by subst h; exact ⟨hu, he, hc⟩
theorem Got.mk_up {α : Type} {C : Nat} {v : Value} {bs : List UInt8} {lim : Int} {V : α → Value} {o : Out α} {w : World} {e : Ending} {w' : World} {q er : Nat} (h : o = .up q er)
    (hu : Upd (· = C) w w') (he : e = .panicked [{ v := gave C, recovered := false }]) (hc : Cur w' C v bs q lim er) : Got C v bs lim V o w e w' := by subst h; exact ⟨hu, he, hc⟩

theorem new_upd {C : Nat} {a b c : World} (h : New a b) (k : Upd (· = C) b c) (_ : C < a.heap.size) : Upd (· = C) a c := Upd.trans (New.upd h) k (fun _ _ h => h)

/-- the next byte, if 'may' allows it -/
theorem Byte_any {w : World} {C : Nat} {v : Value} {bs : List UInt8} {p : Nat} {lim : Int} (h : Cur w C v bs p lim 0) (hi : Inv bs.length lim p) (G : Nat) (cap : Array Value) (hG : Enters G)
    (F : UInt8 → Int → Prop)
    (hmay : ∀ (hp : p < bs.length) w1, Upd (· = C) w w1 → Cur w1 C v bs (p + 1) lim 0 → 0 ≤ rest lim (p + 1) → rest lim (p + 1) ≤ 1099511627776 →
      Calls Try.prog G (#[cb bs[p], .int .i64 (rest lim (p + 1))] ++ cap) w1 (Yes (F bs[p] (rest lim (p + 1))) w1)) :
    Calls Try.prog 17 #[.pointer (some ⟨C, 0, none⟩), .func (.func G) #[] cap] w (Got C v bs lim cb (byteO bs lim F p) w) := by
  have HG := hid hG
  have HM := hid hmay
  have HI := hid hi
  have H0 := hid h
  have ip := hi.place
  have il := hi.len
  have HR := hid (Rest_any h hi)
  obtain ⟨r, hr⟩ : ∃ r, rest lim p = r := ⟨_, rfl⟩
  rw [hr] at HR
  by_cases r0 : r = 0
  · have HO : Hid (byteO bs lim F p = .up p 2) := by show _ = _; unfold byteO; rw [if_pos (hr.trans r0)]
    subst r0
    clear hmay hG hi hr
    go_enter Try.func17, Try.ntmps17
    go_wp2_with fail
    refine (goOn_any H0.out).mono ?_
    rintro e w' ⟨rfl, rfl⟩
    have c1 := h.c1
    go_wp2_with fail
    refine HR.out.mono ?_
    rintro e w1 ⟨rfl, hn⟩
    have h1 := H0.out.new hn
    have HN := hid hn
    clear c1 hn
    go_wp2_with fail
    refine (giveUp_any h1 p 2).mono ?_
    rintro e w2 ⟨rfl, hc2, hu2⟩
    go_wp2_with fail
    exact ⟨rfl, Got.mk_up HO.out (new_upd HN.out hu2 H0.out.lt) rfl hc2⟩
  · have hb : (r == 0) = false := by simpa using r0
    by_cases hp : p < bs.length
    · have hr' : rest lim p ≠ 0 := by rw [hr]; exact r0
      have hi1 := hi.next hr' hp
      have HI1 := hid hi1
      have HO : Hid ((F bs[p] (rest lim (p + 1)) → byteO bs lim F p = .ok bs[p] (p + 1)) ∧ (¬ F bs[p] (rest lim (p + 1)) → byteO bs lim F p = .up p 2)) := by
        constructor
        · intro hF; unfold byteO; rw [if_neg hr', dif_pos hp, if_pos hF]
        · intro hF; unfold byteO; rw [if_neg hr', dif_pos hp, if_neg hF]
      have HB := hid hi1.rest
      obtain ⟨r1, hr1⟩ : ∃ r1, rest lim (p + 1) = r1 := ⟨_, rfl⟩
      have HM' := hid (HM.out hp)
      rw [hr1] at HO HB HM'
      have HR1 := hid hr1
      obtain ⟨a, cp, rfl, hcap, hnil, hcell⟩ := h.rd
      obtain ⟨bb, oo, rfl, hce⟩ := hcell (by intro e; rw [e] at hp; simp at hp)
      have hcp := hce p hp
      generalize hx : bs[p] = x at *
      have HX := hid hx
      have HCP := hid hcp
      have hne : ((p : Int) == (bs.length : Int)) = false := by rw [beq_eq_false_iff_ne]; omega
      have hx256 := u8_lt x
      clear hmay hG hi hi1 hr hr1 hr' hcell hce hcp hx r0 HM
      go_enter Try.func17, Try.ntmps17
      go_wp2_with fail
      refine (goOn_any H0.out).mono ?_
      rintro e w' ⟨rfl, rfl⟩
      have c1 := h.c1
      go_wp2_with fail
      refine HR.out.mono ?_
      rintro e w1 ⟨rfl, hn⟩
      have h1 := H0.out.new hn
      have c0 := h1.c0
      have c1 := h1.c1
      have f1 := h1.f 1
      have ce := hn.cell HCP.out (fun h => h)
      unfold cb at ce
      have HN := hid hn
      have H1 := hid h1
      clear hn h1 h
      go_wp2_with fail
      obtain ⟨h2, u2⟩ := H1.out.at1 (p + 1)
      have u02 := hid (new_upd HN.out u2 H0.out.lt)
      have H2 := hid h2
      rw [show (((p + 1 : Nat)) : Int) = (p : Int) + 1 by omega] at h2 u2 u02 H2
      generalize hw2 : w1.setCell ⟨C, 1, none⟩ (.int .i64 ((p : Int) + 1)) = w2 at *
      have HRR := hid (Rest_any H2.out HI1.out)
      rw [HR1.out] at HRR
      clear c0 c1 f1 ce h2 u2 hw2
      refine HRR.out.mono ?_
      rintro e w3 ⟨rfl, hn3⟩
      have H3 := hid (H2.out.new hn3)
      have u03 := hid (u02.out.trans (New.upd hn3) (T := (· = C)) (fun _ _ h => h))
      have hM3 := HM'.out w3 u03.out H3.out HB.out.1 HB.out.2
      have HM3 := hid hM3
      clear hM3 hn3
      go_wp2_with fail
      refine upon_callv HG.out HM3.out ?_
      rintro e w4 ⟨b, rfl, hbF, hn4⟩
      have H4 := hid (H3.out.new hn4)
      have u04 := hid (u03.out.trans (New.upd hn4) (T := (· = C)) (fun _ _ h => h))
      have HBF := hid hbF
      clear hbF hn4
      cases b with
      | true =>
        go_wp2_with fail
        go_ret
        exact Got.mk_ok (HO.out.1 (HBF.out.1 (by first | rfl | trivial))) u04.out rfl H4.out
      | false =>
        go_wp2_with fail
        refine (giveUp_any H4.out p 2).mono ?_
        rintro e w5 ⟨rfl, hc5, hu5⟩
        go_wp2_with fail
        exact ⟨rfl, Got.mk_up (HO.out.2 (fun hF => by simpa using HBF.out.2 hF)) (u04.out.trans hu5 (fun _ _ h => h)) rfl hc5⟩
    · have hpl : p = bs.length := by omega
      have HO : Hid (byteO bs lim F p = .up p 1) := by show _ = _; unfold byteO; rw [if_neg (by rw [hr]; exact r0), dif_neg hp]
      have heq : ((p : Int) == (bs.length : Int)) = true := by rw [beq_iff_eq]; omega
      obtain ⟨a, cp, rfl, hcap, hnil, hcell⟩ := h.rd
      clear hmay hG hi hr hcell r0 HM hp
      have HPL := hid hpl
      clear hpl
      go_enter Try.func17, Try.ntmps17
      go_wp2_with fail
      refine (goOn_any H0.out).mono ?_
      rintro e w' ⟨rfl, rfl⟩
      have c1 := h.c1
      go_wp2_with fail
      refine HR.out.mono ?_
      rintro e w1 ⟨rfl, hn⟩
      have h1 := H0.out.new hn
      have c0 := h1.c0
      have c1 := h1.c1
      have HN := hid hn
      have H1 := hid h1
      clear hn h1 h
      go_wp2_with fail
      refine (giveUp_any H1.out p 1).mono ?_
      rintro e w2 ⟨rfl, hc2, hu2⟩
      go_wp2_with fail
      exact ⟨rfl, Got.mk_up HO.out (new_upd HN.out hu2 H0.out.lt) rfl hc2⟩
end Go.Proofs.Ytkfohickmdkplaa

namespace Go.Proofs.Ytkfohickmdkplaa
open Go.RowKit Go.Proofs.Leb Go.Proofs.Own
set_option maxRecDepth 100000
set_option maxHeartbeats 2000000

theorem okU_int (x left : Nat) : (((x : Int) / 2 ^ left) == 0) = okU x left := by
  have e : ((x : Int) / 2 ^ left) = ((x / 2 ^ left : Nat) : Int) := by push_cast; rfl
  rw [e, Bool.eq_iff_iff]
  unfold okU
  simp only [beq_iff_eq, decide_eq_true_eq]
  omega
theorem okS_int (x left : Nat) : ((((x : Int) / 2 ^ (left - 1)) == 0) || (((x : Int) / 2 ^ (left - 1)) == 127 / 2 ^ (left - 1))) = okS x left := by
  have e : ((x : Int) / 2 ^ (left - 1)) = ((x / 2 ^ (left - 1) : Nat) : Int) := by push_cast; rfl
  have e2 : ((127 : Int) / 2 ^ (left - 1)) = ((127 / 2 ^ (left - 1) : Nat) : Int) := by push_cast; rfl
  rw [e, e2, Bool.eq_iff_iff]
  unfold okS
  simp only [Bool.or_eq_true, beq_iff_eq, decide_eq_true_eq]
  omega

def clamp (n : Int) : Nat := (min (max n 1) 64).toNat
/-- the value of digits, in 64 bits -/
def vm (l : List UInt8) : Nat := val l % 18446744073709551616

/-- what digits comes to -/
def res (ok : Nat → Nat → Bool) (bs : List UInt8) (bits : Nat) : Value :=
  .tuple #[.int .u64 (if (scan ok bs bits).2 = 0 then vm (bs.take (scan ok bs bits).1) else 0 : Nat), .int .i64 (scan ok bs bits).1, .int .i64 (scan ok bs bits).2]

theorem and127 (x : Nat) (hx : x < 256) : Go.bits .and .u8 (x : Int) 127 = ((x % 128 : Nat) : Int) := by
  have h := u8_and_nat x 127 hx (by omega)
  rw [show ((127 : Nat) : Int) = 127 from rfl] at h
  rw [h, nat_mask7]

theorem cast_mm (d P M : Nat) : (((d : Int) * (P : Int)) % (M : Int)) = ((d * P % M : Nat) : Int) := by rw [Int.natCast_emod, Int.natCast_mul]
theorem digit_or (bs : List UInt8) (i : Nat) (hi : i ≤ 9) (hl : i < bs.length) :
    Go.bits .or .u64 (vm (bs.take i) : Int) (IntKind.u64.wrap (IntKind.u64.wrap (Go.bits .and .u8 (bs[i].toNat : Int) 127) * 2 ^ (7 * i))) = (vm (bs.take (i + 1)) : Int) := by
  have hx := u8_lt bs[i]
  have hv := val_take_lt bs i
  have hle : (128 : Nat) ^ i ≤ 128 ^ 9 := Nat.pow_le_pow_right (by decide) hi
  have h9 : (128 : Nat) ^ 9 = 9223372036854775808 := by decide
  rw [h9] at hle
  have e1 : vm (bs.take i) = val (bs.take i) := Nat.mod_eq_of_lt (by omega)
  rw [e1, and127 _ hx, IntKind.wrap_u64, IntKind.wrap_u64]
  have e2 : (((bs[i].toNat % 128 : Nat) : Int) % 18446744073709551616) = ((bs[i].toNat % 128 : Nat) : Int) := by omega
  have e3 : ((2 : Int) ^ (7 * i)) = ((128 ^ i : Nat) : Int) := by rw [pow128]; push_cast; rfl
  rw [e2, e3]
  unfold vm
  rw [val_take_succ bs i hl]
  have e4 : ((((bs[i].toNat % 128 : Nat) : Int) * ((128 ^ i : Nat) : Int)) % 18446744073709551616) = (((bs[i].toNat % 128) * 128 ^ i % 18446744073709551616 : Nat) : Int) := cast_mm _ _ 18446744073709551616
  rw [e4, u64_or_nat _ _ (by omega) (Nat.mod_lt _ (by decide))]
  congr 1
  have hdiv : (18446744073709551616 : Nat) = 128 ^ i * (18446744073709551616 / 128 ^ i) := by
    have : (18446744073709551616 : Nat) = 2 ^ 64 := by decide
    rw [this, pow128]
    exact (Nat.mul_div_cancel' (Nat.pow_dvd_pow 2 (by omega))).symm
  rw [Nat.or_comm, nat_join (7 * i)]
  · have hc : 128 ^ i * (bs[i].toNat % 128) = bs[i].toNat % 128 * 128 ^ i := Nat.mul_comm _ _
    rw [hc]
    generalize hD : bs[i].toNat % 128 * 128 ^ i = D
    have hm : D % 18446744073709551616 = 128 ^ i * (bs[i].toNat % 128 % (18446744073709551616 / 128 ^ i)) := by
      rw [← hD, hdiv, Nat.mul_comm (bs[i].toNat % 128), Nat.mul_mod_mul_left]
      rw [← hdiv]
    have hlt : bs[i].toNat % 128 % (18446744073709551616 / 128 ^ i) < 18446744073709551616 / 128 ^ i := Nat.mod_lt _ (Nat.div_pos (by omega) (by omega))
    have hb : 128 ^ i * (bs[i].toNat % 128 % (18446744073709551616 / 128 ^ i)) + 128 ^ i ≤ 18446744073709551616 := by
      have := Nat.mul_le_mul_left (128 ^ i) hlt
      rw [Nat.mul_succ, ← hdiv] at this
      exact this
    omega
  · rw [pow128, hdiv, pow128, Nat.mul_comm (bs[i].toNat % 128), Nat.mul_mod_mul_left]
    exact Nat.mul_mod_right _ _
  · rw [← pow128]; exact hv

theorem scan_end {ok : Nat → Nat → Bool} {bs : List UInt8} {wd : Nat} (h : bs.length ≤ stop bs) (hm : bs.length < most wd) : scan ok bs wd = (bs.length, 1) := by
  have := stop_le bs
  unfold scan
  rw [if_pos (by omega), dif_neg (by omega)]
theorem scan_bad {ok : Nat → Nat → Bool} {bs : List UInt8} {wd i : Nat} (hi : i ≤ stop bs) (hl : i < bs.length) (hm : i + 1 = most wd) (hk : ok bs[i].toNat (wd - 7 * i) = false) : scan ok bs wd = (i, 2) := by
  unfold scan
  rcases Nat.lt_or_ge i (stop bs) with h | h
  · rw [if_neg (by omega)]; simp; omega
  · have e : stop bs = i := by omega
    subst e
    rw [if_pos (by omega), dif_pos hl, if_pos ⟨hm, hk⟩]

theorem res_bad {ok : Nat → Nat → Bool} {bs : List UInt8} {wd n e : Nat} (h : scan ok bs wd = (n, e)) (he : e ≠ 0) : res ok bs wd = .tuple #[.int .u64 0, .int .i64 n, .int .i64 e] := by
  unfold res; rw [h]; simp only [if_neg he]; rfl
theorem res_ok {ok : Nat → Nat → Bool} {bs : List UInt8} {wd n : Nat} (h : scan ok bs wd = (n, 0)) : res ok bs wd = .tuple #[.int .u64 (vm (bs.take n)), .int .i64 n, .int .i64 0] := by
  unfold res; rw [h]; rfl

theorem okU_big (x l : Nat) (h : 128 ≤ x) (hl : l ≤ 7) (hk : okU x l = true) : False := by
  simp only [okU, decide_eq_true_eq] at hk
  have : (2 : Nat) ^ l ≤ 2 ^ 7 := Nat.pow_le_pow_right (by decide) hl
  have h2 := Nat.div_pos (show 2 ^ l ≤ x by omega) (Nat.pow_pos (by decide))
  omega
theorem okS_big (x l : Nat) (h : 128 ≤ x) (hl : l ≤ 7) (hk : okS x l = true) : False := by
  simp only [okS, decide_eq_true_eq] at hk
  have h1 : (2 : Nat) ^ (l - 1) ≤ 2 ^ 6 := Nat.pow_le_pow_right (by decide) (by omega)
  have h0 : 0 < (2 : Nat) ^ (l - 1) := Nat.pow_pos (by decide)
  have h2 := Nat.div_pos (show 2 ^ (l - 1) ≤ x by omega) h0
  have h3 : 2 ^ (l - 1) ∣ 128 := by rw [show (128 : Nat) = 2 ^ 7 from rfl]; exact Nat.pow_dvd_pow 2 (by omega)
  have h4 : 127 / 2 ^ (l - 1) < 128 / 2 ^ (l - 1) := by
    rw [Nat.div_lt_iff_lt_mul h0, Nat.div_mul_cancel h3]; omega
  have h5 : 128 / 2 ^ (l - 1) ≤ x / 2 ^ (l - 1) := Nat.div_le_div_right h
  omega

end Go.Proofs.Ytkfohickmdkplaa

namespace Go.Proofs.Ytkfohickmdkplaa
open Go.RowKit Go.Proofs.Own Go.Proofs.Span
set_option maxRecDepth 100000
set_option maxHeartbeats 2000000

theorem nothing_any (w : World) :
    Calls Try.prog 68 #[] w fun e w' => e = .returned (.agg #[.int .u64 1, .int .u64 0]) ∧ w.alloc (.cells #[.int .u64 1, .int .u64 0] 87) = w' := by
  go_enter Try.func68, Try.ntmps68
  go_wp2_with fail
  refine ret_agg rfl Try.underlying87 rfl w.heap.size #[.int .u64 1, .int .u64 0] 87 (by kernel_rfl) rfl rfl ?_ ?_
  · repeat (first | (refine hp_new ?_; simp; done) | (refine hp_old ?_ ?_; · (simp <;> omega)))
  · exact ⟨rfl, rfl⟩

theorem up_any (a b : Int) (w : World) (h1 : 1 ≤ a) (h2 : a ≤ 1000000000000000) (h3 : 1 ≤ b) (h4 : b ≤ 1000000000000000) :
    Calls Try.prog 70 #[.int .i64 a, .int .i64 b] w fun e w' => e = .returned (.int .i64 ((a - 1) / b + 1)) ∧ w = w' := by
  have hb : max b 1 = b := by omega
  have hq0 : 0 ≤ (a - 1) / b := Int.ediv_nonneg (by omega) (by omega)
  have hq1 : (a - 1) / b ≤ a - 1 := Int.ediv_le_self _ (by omega)
  go_enter Try.func70, Try.ntmps70
  go_wp2_with fail
  go_ret
  exact ⟨rfl, rfl⟩

theorem within_any (n h : Int) (w : World) :
    Calls Try.prog 66 #[.int .i64 n, .int .i64 h] w fun e w' => e = .returned (.int .i64 (min (max n 0) h)) ∧ w = w' := by
  obtain ⟨a, ha⟩ : ∃ a, max n 0 = a := ⟨_, rfl⟩
  obtain ⟨b, hb⟩ : ∃ b, min a h = b := ⟨_, rfl⟩
  have HW : Hid (min (max n 0) h = b) := by show _ = _; rw [ha, hb]
  have ha' : (if n < 0 then (0 : Int) else n) = a := by split <;> omega
  have hb' : (if h < a then h else a) = b := by split <;> omega
  go_enter Try.func66, Try.ntmps66
  go_wp2_with fail
  go_ret
  exact ⟨by rw [HW.out]; rfl, rfl⟩

theorem between_any (lo hi : Int) (w : World) (h1 : lo ≤ 9223372036854775807) (h2 : -9223372036854775808 ≤ hi) :
    Calls Try.prog 71 #[.int .i64 lo, .int .i64 hi] w fun e w' =>
      e = .returned (.agg #[.int .u64 (between lo hi).1, .int .u64 (between lo hi).2]) ∧
        (w.alloc (.cells #[.int .u64 (between lo hi).1, .int .u64 (between lo hi).2] 87) = w' ∨
         (w.alloc (.cells #[.int .u64 1, .int .u64 0] 87)).alloc (.cells #[.int .u64 1, .int .u64 0] 87) = w') := by
  obtain ⟨a, ha⟩ : ∃ a, max lo 0 = a := ⟨_, rfl⟩
  obtain ⟨b, hb⟩ : ∃ b, min hi 4294967295 = b := ⟨_, rfl⟩
  have a0 : 0 ≤ a := by omega
  have a1 : a ≤ 9223372036854775807 := by omega
  have b1 : b ≤ 4294967295 := by omega
  have ha' : (if lo < 0 then (0 : Int) else lo) = a := by split <;> omega
  have hb' : (if 4294967295 < hi then (4294967295 : Int) else hi) = b := by split <;> omega
  have HE := hid nothing_any
  by_cases hc : b < a
  · have HW : Hid (between lo hi = (1, 0)) := by show _ = _; unfold between; rw [if_pos (by omega)]
    go_enter Try.func71, Try.ntmps71
    go_wp2_with (refine (HE.out _).mono ?_; rintro e w' ⟨rfl, rfl⟩)
    refine ret_agg rfl Try.underlying87 rfl w.heap.size #[.int .u64 1, .int .u64 0] 87 (by kernel_rfl) rfl rfl ?_ ?_
    · repeat (first | (refine hp_new ?_; simp; done) | (refine hp_old ?_ ?_; · (simp <;> omega)))
    · rw [HW.out]
      exact ⟨rfl, .inr rfl⟩
  · have HW : Hid (between lo hi = (a, b)) := by show _ = _; unfold between; rw [if_neg (by omega), ha, hb]
    go_enter Try.func71, Try.ntmps71
    go_wp2_with fail
    refine ret_agg rfl Try.underlying87 rfl w.heap.size #[.int .u64 a, .int .u64 b] 87 (by kernel_rfl) rfl rfl ?_ ?_
    · repeat (first | (refine hp_new ?_; simp; done) | (refine hp_old ?_ ?_; · (simp <;> omega)))
    · rw [HW.out]
      exact ⟨rfl, .inl rfl⟩

theorem between_all (lo hi : Int) : 0 ≤ (between lo hi).1 ∧ (between lo hi).1 ≤ 4294967295 ∧ 0 ≤ (between lo hi).2 ∧ (between lo hi).2 ≤ 4294967295 ∧
    ((between lo hi).2 < (between lo hi).1 → (between lo hi) = (1, 0)) := by
  unfold between; split
  · simp
  · simp only; refine ⟨by omega, by omega, by omega, by omega, by omega⟩
theorem counts_all (iMin iMax bMin bMax r : Int) : 0 ≤ (counts iMin iMax bMin bMax r).1 ∧ (counts iMin iMax bMin bMax r).1 ≤ 4294967295 ∧ 0 ≤ (counts iMin iMax bMin bMax r).2 ∧ (counts iMin iMax bMin bMax r).2 ≤ 4294967295 ∧
    ((counts iMin iMax bMin bMax r).2 < (counts iMin iMax bMin bMax r).1 → (counts iMin iMax bMin bMax r) = (1, 0)) := by
  unfold counts; split
  · simp
  · exact between_all _ _
theorem sizes_all (oMin oMax bMin bMax r : Int) : 0 ≤ (sizes oMin oMax bMin bMax r).1 ∧ (sizes oMin oMax bMin bMax r).1 ≤ 4294967295 ∧ 0 ≤ (sizes oMin oMax bMin bMax r).2 ∧ (sizes oMin oMax bMin bMax r).2 ≤ 4294967295 ∧
    ((sizes oMin oMax bMin bMax r).2 < (sizes oMin oMax bMin bMax r).1 → (sizes oMin oMax bMin bMax r) = (1, 0)) := by
  unfold sizes; split
  · split
    · exact between_all _ _
    · simp
  · exact between_all _ _
theorem least_bd {iMax bMax r : Int} (h1 : 1 ≤ iMax) (h2 : 0 ≤ bMax) (h0 : 0 ≤ r) (h3 : r ≤ 1099511627776) : 0 ≤ least iMax bMax r ∧ least iMax bMax r ≤ 1099511627777 := by
  unfold least
  split
  · split
    · omega
    · have hq0 : 0 ≤ (r - bMax - 1) / iMax := Int.ediv_nonneg (by omega) (by omega)
      have hq1 : (r - bMax - 1) / iMax ≤ r - bMax - 1 := Int.ediv_le_self _ (by omega)
      omega
  · omega

theorem Counts_any (iMin iMax bMin bMax r : Int) (w : World) (hi : item iMin iMax) (hb : right bMin bMax) (h0 : 0 ≤ r) (h1 : r ≤ 1099511627776) :
    Calls Try.prog 51 #[.agg #[.int .i64 iMin, .int .i64 iMax], .agg #[.int .i64 bMin, .int .i64 bMax], .int .i64 r] w fun e w' =>
      e = .returned (.agg #[.int .u64 (counts iMin iMax bMin bMax r).1, .int .u64 (counts iMin iMax bMin bMax r).2]) ∧ New w w' := by
  obtain ⟨⟨i1, i2, i3, i4⟩, i5, i6, i7⟩ := hi
  obtain ⟨b1, b2, b3, b4⟩ := hb
  have HN := hid nothing_any
  have HE := hid endless_any
  have hl := least_bd (iMax := iMax) (bMax := bMax) (r := r) (by omega) (by omega) h0 h1
  by_cases hr : r < bMin
  · have HW : Hid (counts iMin iMax bMin bMax r = (1, 0)) := if_pos hr
    go_enter Try.func51, Try.ntmps51
    go_wp2_with (refine (HN.out _).mono ?_; rintro e w' ⟨rfl, rfl⟩)
    refine ret_agg rfl Try.underlying87 rfl (w.heap.size + 1 + 1) #[.int .u64 1, .int .u64 0] 87 (by kernel_rfl) rfl rfl ?_ ?_
    · repeat (first | (refine hp_new ?_; simp; done) | (refine hp_old ?_ ?_; · (simp <;> omega)))
    · rw [HW.out]
      exact ⟨rfl, by repeat (first | exact Upd.refl _ _ | apply Upd.alloc)⟩
  · obtain ⟨q, hq⟩ : ∃ q, (r - bMin) / iMin = q := ⟨_, rfl⟩
    have q0 : 0 ≤ q := by rw [← hq]; exact Int.ediv_nonneg (by omega) (by omega)
    have hm : (if iMin < 1 then (1 : Int) else iMin) = iMin := if_neg (by omega)
    obtain ⟨L, hL⟩ : ∃ L, least iMax bMax r = L := ⟨_, rfl⟩
    rw [hL] at hl
    have HW : Hid (counts iMin iMax bMin bMax r = between L q) := by show _ = _; unfold counts; rw [if_neg hr, hL, hq]
    have HB := hid (fun w => between_any L q w (by omega) (by omega))
    generalize (between L q) = c at *
    by_cases hs : bMax < 1099511627776 ∧ bMax < r
    · obtain ⟨s1, s2⟩ := hs
      have hd : decide ((1099511627776 : Int) ≤ bMax) = false := decide_eq_false (by omega)
      by_cases he : (1099511627776 : Int) ≤ iMax
      · have hd2 : decide ((1099511627776 : Int) ≤ iMax) = true := decide_eq_true he
        have hL1 : L = 1 := by rw [← hL]; unfold least; rw [if_pos ⟨s1, s2⟩, if_pos he]
        clear hL
        subst hL1
        go_enter Try.func51, Try.ntmps51
        go_wp2_with (first | (go_at_call 69; refine (HE.out _ _ _).mono ?_; rintro e w' ⟨rfl, rfl⟩) | (go_at_call 71; refine (HB.out _).mono ?_; rintro e w' ⟨rfl, rfl | rfl⟩) | (go_at_call 70; refine (HU.out _).mono ?_; rintro e w' ⟨rfl, rfl⟩))
        all_goals refine ret_agg rfl Try.underlying87 rfl (w.heap.size + 1 + 1) #[.int .u64 c.1, .int .u64 c.2] 87 (by kernel_rfl) rfl rfl ?_ ?_
        all_goals first
          | (rw [HW.out]; exact ⟨rfl, by repeat (first | exact Upd.refl _ _ | apply Upd.alloc)⟩)
          | (repeat (first | (refine hp_new ?_; simp; done) | (refine hp_old ?_ ?_; · (simp <;> omega))))
      · have hd2 : decide ((1099511627776 : Int) ≤ iMax) = false := decide_eq_false he
        have hL1 : (r - bMax - 1) / iMax + 1 = L := by rw [← hL]; unfold least; rw [if_pos ⟨s1, s2⟩, if_neg he]
        clear hL
        have HU := hid (fun w => up_any (r - bMax) iMax w (by omega) (by omega) (by omega) (by omega))
        rw [hL1] at HU
        go_enter Try.func51, Try.ntmps51
        go_wp2_with (first | (go_at_call 69; refine (HE.out _ _ _).mono ?_; rintro e w' ⟨rfl, rfl⟩) | (go_at_call 71; refine (HB.out _).mono ?_; rintro e w' ⟨rfl, rfl | rfl⟩) | (go_at_call 70; refine (HU.out _).mono ?_; rintro e w' ⟨rfl, rfl⟩))
        all_goals refine ret_agg rfl Try.underlying87 rfl (w.heap.size + 1 + 1) #[.int .u64 c.1, .int .u64 c.2] 87 (by kernel_rfl) rfl rfl ?_ ?_
        all_goals first
          | (rw [HW.out]; exact ⟨rfl, by repeat (first | exact Upd.refl _ _ | apply Upd.alloc)⟩)
          | (repeat (first | (refine hp_new ?_; simp; done) | (refine hp_old ?_ ?_; · (simp <;> omega))))
    · have hL1 : L = 0 := by rw [← hL]; unfold least; rw [if_neg hs]
      clear hL
      subst hL1
      by_cases he : (1099511627776 : Int) ≤ bMax
      · have hd : decide ((1099511627776 : Int) ≤ bMax) = true := decide_eq_true he
        go_enter Try.func51, Try.ntmps51
        go_wp2_with (first | (go_at_call 69; refine (HE.out _ _ _).mono ?_; rintro e w' ⟨rfl, rfl⟩) | (go_at_call 71; refine (HB.out _).mono ?_; rintro e w' ⟨rfl, rfl | rfl⟩) | (go_at_call 70; refine (HU.out _).mono ?_; rintro e w' ⟨rfl, rfl⟩))
        all_goals refine ret_agg rfl Try.underlying87 rfl (w.heap.size + 1 + 1) #[.int .u64 c.1, .int .u64 c.2] 87 (by kernel_rfl) rfl rfl ?_ ?_
        all_goals first
          | (rw [HW.out]; exact ⟨rfl, by repeat (first | exact Upd.refl _ _ | apply Upd.alloc)⟩)
          | (repeat (first | (refine hp_new ?_; simp; done) | (refine hp_old ?_ ?_; · (simp <;> omega))))
      · have hd : decide ((1099511627776 : Int) ≤ bMax) = false := decide_eq_false he
        have hd3 : ¬ bMax < r := fun h => hs ⟨by omega, h⟩
        clear hs
        go_enter Try.func51, Try.ntmps51
        go_wp2_with (first | (go_at_call 69; refine (HE.out _ _ _).mono ?_; rintro e w' ⟨rfl, rfl⟩) | (go_at_call 71; refine (HB.out _).mono ?_; rintro e w' ⟨rfl, rfl | rfl⟩) | (go_at_call 70; refine (HU.out _).mono ?_; rintro e w' ⟨rfl, rfl⟩))
        all_goals refine ret_agg rfl Try.underlying87 rfl (w.heap.size + 1 + 1) #[.int .u64 c.1, .int .u64 c.2] 87 (by kernel_rfl) rfl rfl ?_ ?_
        all_goals first
          | (rw [HW.out]; exact ⟨rfl, by repeat (first | exact Upd.refl _ _ | apply Upd.alloc)⟩)
          | (repeat (first | (refine hp_new ?_; simp; done) | (refine hp_old ?_ ?_; · (simp <;> omega))))

theorem Sizes_any (oMin oMax bMin bMax r : Int) (w : World) (ho : right oMin oMax) (hb : right bMin bMax) (h0 : 0 ≤ r) (h1 : r ≤ 1099511627776) :
    Calls Try.prog 52 #[.agg #[.int .i64 oMin, .int .i64 oMax], .agg #[.int .i64 bMin, .int .i64 bMax], .int .i64 r] w fun e w' =>
      e = .returned (.agg #[.int .u64 (sizes oMin oMax bMin bMax r).1, .int .u64 (sizes oMin oMax bMin bMax r).2]) ∧ New w w' := by
  obtain ⟨i1, i2, i3, i4⟩ := ho
  obtain ⟨b1, b2, b3, b4⟩ := hb
  have HN := hid nothing_any
  have HE := hid endless_any
  by_cases hr : (1099511627776 : Int) ≤ r
  · by_cases hm : (1099511627776 : Int) ≤ bMax
    · have hd : decide ((1099511627776 : Int) ≤ bMax) = true := decide_eq_true hm
      have HW : Hid (sizes oMin oMax bMin bMax r = between oMin oMax) := by show _ = _; unfold sizes; rw [if_pos hr, if_pos hm]
      have HB := hid (fun w => between_any oMin oMax w (by omega) (by omega))
      generalize (between oMin oMax) = c at *
      go_enter Try.func52, Try.ntmps52
      go_wp2_with (first | (go_at_call 69; refine (HE.out _ _ _).mono ?_; rintro e w' ⟨rfl, rfl⟩) | (go_at_call 71; refine (HB.out _).mono ?_; rintro e w' ⟨rfl, rfl | rfl⟩) | (go_at_call 70; refine (HU.out _).mono ?_; rintro e w' ⟨rfl, rfl⟩))
      all_goals refine ret_agg rfl Try.underlying87 rfl (w.heap.size + 1 + 1) #[.int .u64 c.1, .int .u64 c.2] 87 (by kernel_rfl) rfl rfl ?_ ?_
      all_goals first
        | (rw [HW.out]; exact ⟨rfl, by repeat (first | exact Upd.refl _ _ | apply Upd.alloc)⟩)
        | (repeat (first | (refine hp_new ?_; simp; done) | (refine hp_old ?_ ?_; · (simp <;> omega))))
    · have hd : decide ((1099511627776 : Int) ≤ bMax) = false := decide_eq_false hm
      have HW : Hid (sizes oMin oMax bMin bMax r = (1, 0)) := by show _ = _; unfold sizes; rw [if_pos hr, if_neg hm]
      go_enter Try.func52, Try.ntmps52
      go_wp2_with (first | (go_at_call 69; refine (HE.out _ _ _).mono ?_; rintro e w' ⟨rfl, rfl⟩) | (refine (HN.out _).mono ?_; rintro e w' ⟨rfl, rfl⟩))
      refine ret_agg rfl Try.underlying87 rfl (w.heap.size + 1 + 1) #[.int .u64 1, .int .u64 0] 87 (by kernel_rfl) rfl rfl ?_ ?_
      · repeat (first | (refine hp_new ?_; simp; done) | (refine hp_old ?_ ?_; · (simp <;> omega)))
      · rw [HW.out]
        exact ⟨rfl, by repeat (first | exact Upd.refl _ _ | apply Upd.alloc)⟩
  · obtain ⟨H, hH⟩ : ∃ H, min oMax (r - bMin) = H := ⟨_, rfl⟩
    have hH' : (if r - bMin < oMax then r - bMin else oMax) = H := by split <;> omega
    by_cases hm : (1099511627776 : Int) ≤ bMax
    · have hd : decide ((1099511627776 : Int) ≤ bMax) = true := decide_eq_true hm
      have HW : Hid (sizes oMin oMax bMin bMax r = between oMin H) := by show _ = _; unfold sizes; rw [if_neg hr, if_pos hm, hH]
      have HB := hid (fun w => between_any oMin H w (by omega) (by omega))
      generalize (between oMin H) = c at *
      go_enter Try.func52, Try.ntmps52
      go_wp2_with (first | (go_at_call 69; refine (HE.out _ _ _).mono ?_; rintro e w' ⟨rfl, rfl⟩) | (go_at_call 71; refine (HB.out _).mono ?_; rintro e w' ⟨rfl, rfl | rfl⟩) | (go_at_call 70; refine (HU.out _).mono ?_; rintro e w' ⟨rfl, rfl⟩))
      all_goals refine ret_agg rfl Try.underlying87 rfl (w.heap.size + 1 + 1) #[.int .u64 c.1, .int .u64 c.2] 87 (by kernel_rfl) rfl rfl ?_ ?_
      all_goals first
        | (rw [HW.out]; exact ⟨rfl, by repeat (first | exact Upd.refl _ _ | apply Upd.alloc)⟩)
        | (repeat (first | (refine hp_new ?_; simp; done) | (refine hp_old ?_ ?_; · (simp <;> omega))))
    · have hd : decide ((1099511627776 : Int) ≤ bMax) = false := decide_eq_false hm
      obtain ⟨L, hL⟩ : ∃ L, max oMin (r - bMax) = L := ⟨_, rfl⟩
      have hL' : (if oMin < r - bMax then r - bMax else oMin) = L := by split <;> omega
      have HW : Hid (sizes oMin oMax bMin bMax r = between L H) := by show _ = _; unfold sizes; rw [if_neg hr, if_neg hm, hH, hL]
      have HB := hid (fun w => between_any L H w (by omega) (by omega))
      generalize (between L H) = c at *
      go_enter Try.func52, Try.ntmps52
      go_wp2_with (first | (go_at_call 69; refine (HE.out _ _ _).mono ?_; rintro e w' ⟨rfl, rfl⟩) | (go_at_call 71; refine (HB.out _).mono ?_; rintro e w' ⟨rfl, rfl | rfl⟩) | (go_at_call 70; refine (HU.out _).mono ?_; rintro e w' ⟨rfl, rfl⟩))
      all_goals refine ret_agg rfl Try.underlying87 rfl (w.heap.size + 1 + 1) #[.int .u64 c.1, .int .u64 c.2] 87 (by kernel_rfl) rfl rfl ?_ ?_
      all_goals first
        | (rw [HW.out]; exact ⟨rfl, by repeat (first | exact Upd.refl _ _ | apply Upd.alloc)⟩)
        | (repeat (first | (refine hp_new ?_; simp; done) | (refine hp_old ?_ ?_; · (simp <;> omega))))
end Go.Proofs.Ytkfohickmdkplaa

namespace Go.Proofs.Ytkfohickmdkplaa
open Go.RowKit Go.Proofs.Own Go.Proofs.Span
set_option maxRecDepth 100000
set_option maxHeartbeats 2000000

/-- a slice of ranges that can be read -/
def RdP (w : World) (v : Value) (rs : List (Nat × Nat)) : Prop :=
  ∃ a cap, v = .slice a rs.length cap ∧ rs.length ≤ cap ∧ (a = none → cap = 0) ∧ (rs ≠ [] → ∃ b o, a = some ⟨b, o, none⟩ ∧
    ∀ i (h : i < rs.length), w.cell? ⟨b, o + i * 2, none⟩ = some (.int .u64 rs[i].1) ∧ w.cell? ⟨b, o + i * 2 + 1, none⟩ = some (.int .u64 rs[i].2))
theorem RdP.new {w w' : World} {v : Value} {rs : List (Nat × Nat)} (h : RdP w v rs) (hn : New w w') : RdP w' v rs := by
  obtain ⟨a, cap, rfl, h1, h2, h3⟩ := h
  refine ⟨a, cap, rfl, h1, h2, fun hne => ?_⟩
  obtain ⟨b, o, rfl, hc⟩ := h3 hne
  exact ⟨b, o, rfl, fun i hi => ⟨hn.cell (hc i hi).1 (fun h => h), hn.cell (hc i hi).2 (fun h => h)⟩⟩

theorem within_nat (n h : Nat) (w : World) (hn : n ≤ h) :
    Calls Try.prog 66 #[.int .i64 n, .int .i64 h] w fun e w' => e = .returned (.int .i64 n) ∧ w = w' := by
  have hc := within_any n h w
  rw [show min (max (n : Int) 0) h = n by omega] at hc
  exact hc

/-- 'look', its powers named -/
def lookN (lo hi low S R T : Nat) : Bool :=
  decide (lo ≤ min hi T) && decide (low ≤ min hi T) && (decide ((if low < lo then (lo - low - 1) / S + 1 else 0) < R) && decide (low + (if low < lo then (lo - low - 1) / S + 1 else 0) * S ≤ min hi T))

theorem Fits_any (v : Value) (rs : List (Nat × Nat)) (low s l b : Nat) (w : World) (hr : RdP w v rs) (hlen : rs.length ≤ 1000000) (hs : s ≤ 63) (hl : l ≤ 9) (hb : b ≤ 63) (hlow : low < 2 ^ s)
    (hrs : ∀ i (h : i < rs.length), rs[i].1 < 18446744073709551616 ∧ rs[i].2 < 18446744073709551616) :
    Calls Try.prog 48 #[v, .int .u64 low, .int .i64 s, .int .i64 l, .int .i64 b] w fun e w' => e = .returned (.bool (rs.any fun x => Span.look x.1 x.2 low s l b)) ∧ New w w' := by
  obtain ⟨S, hS⟩ : ∃ S, 2 ^ s = S := ⟨_, rfl⟩
  obtain ⟨R, hR⟩ : ∃ R, 2 ^ (7 * l) = R := ⟨_, rfl⟩
  obtain ⟨T, hT⟩ : ∃ T, 2 ^ b = T + 1 := ⟨2 ^ b - 1, by have : 0 < 2 ^ b := Nat.pow_pos (by decide); omega⟩
  have p63 : (2 : Nat) ^ 63 = 9223372036854775808 := by decide
  have S1 : S ≤ 9223372036854775808 := by rw [← hS, ← p63]; exact Nat.pow_le_pow_right (by decide) hs
  have S0 : 0 < S := by rw [← hS]; exact Nat.pow_pos (by decide)
  have R00 : 0 < R := by rw [← hR]; exact Nat.pow_pos (by decide)
  have R1 : R ≤ 9223372036854775808 := by rw [← hR, ← p63]; exact Nat.pow_le_pow_right (by decide) (by omega)
  have T1 : T < 9223372036854775808 := by have : (2 : Nat) ^ b ≤ 2 ^ 63 := Nat.pow_le_pow_right (by decide) hb; omega
  have i1 : (2 : Int) ^ s = S := by rw [← hS]; simp
  have i2 : (2 : Int) ^ (7 * l) = R := by rw [← hR]; simp
  have i3 : (2 : Int) ^ b = T + 1 := by have := congrArg (fun t : Nat => (t : Int)) hT; simpa using this
  have HL : Hid (∀ lo hi, Span.look lo hi low s l b = lookN lo hi low S R T) := by
    intro lo hi
    unfold Span.look lookN
    rw [hS, hR, hT, Nat.add_sub_cancel]
  have HNO : Hid ((∀ j (hj : j < rs.length), lookN rs[j].1 rs[j].2 low S R T = false) → (rs.any fun x => Span.look x.1 x.2 low s l b) = false) := by
    intro h
    rw [List.any_eq_false]
    intro x hx
    obtain ⟨j, hj, rfl⟩ := List.mem_iff_getElem.mp hx
    rw [HL.out, h j hj]
    simp
  rw [hS] at hlow
  clear p63 hS hR hT
  have HR := hid hr
  obtain ⟨a, cap, rfl, hcap, hnil, hcell⟩ := hr
  have HI1 := hid (within_nat s 63 · hs)
  have HI2 := hid (within_nat l 9 · hl)
  have HI3 := hid (within_nat b 63 · hb)
  have HA := hid hcell
  clear hcell
  go_enter Try.func48, Try.ntmps48
  go_wp2_with fail
  go_step3
  go_wp2_with fail
  refine (HI1.out _).mono ?_
  rintro e w' ⟨rfl, rfl⟩
  go_wp2_with fail
  refine (HI2.out _).mono ?_
  rintro e w' ⟨rfl, rfl⟩
  go_wp2_with fail
  refine (HI3.out _).mono ?_
  rintro e w' ⟨rfl, rfl⟩
  go_wp2_with fail
  rw [i2]
  go_step3
  go_wp2_with fail
  go_loopg [31] rs.length (fun k p wr => ∃ i : Nat, k = rs.length - i ∧ p = .int .i64 i ∧ i ≤ rs.length ∧ New w wr ∧ ∀ j (_ : j < i) (hj : j < rs.length), lookN rs[j].1 rs[j].2 low S R T = false)
  case atStart => exact ⟨0, by simp, rfl, Nat.zero_le _, Upd.refl _ _, fun j h => absurd h (Nat.not_lt_zero _)⟩
  case round =>
    obtain ⟨i, rfl, rfl, hi, hw, hbefore⟩ := hrel
    have HBF := hid hbefore
    have HW := hid hw
    clear hbefore hw
    by_cases hlt : i < rs.length
    · obtain ⟨bl, of, rfl, hcell⟩ := HA.out (by intro h; subst h; simp at hlt)
      have hc0 := HW.out.cell (hcell i hlt).1 (fun h => h)
      have hc1 := HW.out.cell (hcell i hlt).2 (fun h => h)
      have hbd := hrs i hlt
      have HX := hid (fun (h : lookN rs[i].1 rs[i].2 low S R T = false) => (show ∀ j (_ : j < i + 1) (hj : j < rs.length), lookN rs[j].1 rs[j].2 low S R T = false from fun j h1 h2 => by
        rcases Nat.lt_or_ge j i with h3 | h3
        · exact HBF.out j h3 h2
        · have : j = i := by omega
          subst this
          exact h))
      have HY := hid (fun (h : lookN rs[i].1 rs[i].2 low S R T = true) => (show (rs.any fun x => Span.look x.1 x.2 low s l b) = true from List.any_eq_true.mpr ⟨rs[i], List.getElem_mem _, by rw [HL.out]; exact h⟩))
      clear hcell
      generalize hlo : rs[i].1 = lo at *
      generalize hhi : rs[i].2 = hi' at *
      clear hlo hhi
      obtain ⟨H, hH⟩ : ∃ H, min hi' T = H := ⟨_, rfl⟩
      have H1 : (if T < hi' then (T : Int) else (hi' : Int)) = H := by split <;> omega
      have H2 : H ≤ T := by omega
      have HH := hid hH
      clear hH
      by_cases ca : H < lo
      · have hv : Hid (lookN lo hi' low S R T = false) := by show _ = _; unfold lookN; rw [HH.out, decide_eq_false (by omega : ¬ lo ≤ H)]; rfl
        go_wp2_with fail
        go_roundg (rs.length - (i + 1))
        case measure => omega
        case rel => exact ⟨i + 1, rfl, by go_num, by omega, HW.out.alloc _, HX.out hv.out⟩
      · by_cases cb : H < low
        · have hv : Hid (lookN lo hi' low S R T = false) := by show _ = _; unfold lookN; rw [HH.out, decide_eq_false (by omega : ¬ low ≤ H), Bool.and_false]; rfl
          go_wp2_with fail
          go_roundg (rs.length - (i + 1))
          case measure => omega
          case rel => exact ⟨i + 1, rfl, by go_num, by omega, HW.out.alloc _, HX.out hv.out⟩
        · have hv0 : lookN lo hi' low S R T = (decide ((if low < lo then (lo - low - 1) / S + 1 else 0) < R) && decide (low + (if low < lo then (lo - low - 1) / S + 1 else 0) * S ≤ H)) := by
            unfold lookN; rw [HH.out, decide_eq_true (by omega : lo ≤ H), decide_eq_true (by omega : low ≤ H)]; rfl
          by_cases cc : low < lo
          · rw [if_pos cc] at hv0
            obtain ⟨q, hq⟩ : ∃ q, (lo - low - 1) / S = q := ⟨_, rfl⟩
            have q1 : ((lo : Int) - low - 1) / S = q := by rw [← hq, Int.natCast_ediv]; congr 1; omega
            have q2 : q ≤ lo - low - 1 := by rw [← hq]; exact Nat.div_le_self _ _
            have q3 : q * S ≤ lo - low - 1 := by rw [← hq]; exact Nat.div_mul_le_self _ _
            rw [hq] at hv0
            obtain ⟨m, hm⟩ : ∃ m, (q + 1) * S = m := ⟨_, rfl⟩
            have m1 : ((q : Int) + 1) * S = m := by rw [← hm]; simp
            have m2 : m ≤ lo - low - 1 + S := by rw [← hm, Nat.add_mul]; omega
            rw [hm] at hv0
            clear hq hm
            by_cases cd : q + 1 < R
            · by_cases ce : low + m ≤ H
              · have hv : Hid (lookN lo hi' low S R T = true) := by show _ = _; rw [hv0, decide_eq_true cd, decide_eq_true ce]; rfl
                clear hv0
                have cd' : (q : Int) + 1 < R := by omega
                have ce' : (low : Int) + m ≤ H := by omega
                go_wp2_with fail
                rw [Exit.noGoto_ret]
                go_ret
                exact ⟨by rw [HY.out hv.out]; rfl, HW.out.alloc _⟩
              · have hv : Hid (lookN lo hi' low S R T = false) := by show _ = _; rw [hv0, decide_eq_false ce, Bool.and_false]
                clear hv0
                have ce' : ¬ (low : Int) + m ≤ H := by omega
                have cd' : (q : Int) + 1 < R := by omega
                go_wp2_with fail
                go_roundg (rs.length - (i + 1))
                case measure => omega
                case rel => exact ⟨i + 1, rfl, by go_num, by omega, HW.out.alloc _, HX.out hv.out⟩
            · have hv : Hid (lookN lo hi' low S R T = false) := by show _ = _; rw [hv0, decide_eq_false cd]; rfl
              clear hv0
              have cd' : ¬ (q : Int) + 1 < R := by omega
              go_wp2_with fail
              go_roundg (rs.length - (i + 1))
              case measure => omega
              case rel => exact ⟨i + 1, rfl, by go_num, by omega, HW.out.alloc _, HX.out hv.out⟩
          · rw [if_neg cc, Nat.zero_mul, Nat.add_zero] at hv0
            have R0 : 0 < R := R00
            have hv : Hid (lookN lo hi' low S R T = true) := by show _ = _; rw [hv0, decide_eq_true R0, decide_eq_true (by omega : low ≤ H)]; rfl
            clear hv0
            go_wp2_with fail
            rw [Exit.noGoto_ret]
            go_ret
            exact ⟨by rw [HY.out hv.out]; rfl, HW.out.alloc _⟩
    · go_wp2_with fail
      rw [Exit.noGoto_ret]
      go_ret
      refine ⟨?_, HW.out⟩
      rw [HNO.out (fun j hj => HBF.out j (by omega) hj)]
      rfl
end Go.Proofs.Ytkfohickmdkplaa

namespace Go.Proofs.Ytkfohickmdkplaa
open Go.RowKit Go.Proofs.Leb Go.Proofs.Own Go.Proofs.Cur
set_option maxRecDepth 100000
set_option maxHeartbeats 2000000

theorem comes_any (x most : Nat) (r : Int) (G : Nat) (cap : Array Value) (hG : Enters G) (f : Nat → Int → Prop) (w : World) (hx : x < 256) (hmost : most ≤ 10) (r0 : 0 ≤ r) (r1 : r ≤ 1099511627776)
    (hout : ∀ (j : Nat) (r' : Int) w1, New w w1 → j ≤ most → 0 ≤ r' → r' ≤ 1099511627776 → (j = 0 ∨ 128 ≤ x) → Calls Try.prog G (#[.int .i64 j, .int .i64 r'] ++ cap) w1 (Yes (f j r') w1)) :
    Calls Try.prog 46 #[.int .u8 x, .int .i64 most, .int .i64 r, .func (.func G) #[] cap] w (Yes (comes f x most r) w) := by
  have HG := hid hG
  have HO := hid hout
  clear hG hout
  by_cases h128 : x < 128
  · have HC : Hid (comes f x most r ↔ f 0 r) := by show _ ↔ _; unfold comes; rw [if_pos h128]
    have h0 := hid (HO.out 0 r w (Upd.refl _ _) (Nat.zero_le _) r0 r1 (.inl rfl))
    have hd : decide ((x : Int) < 128) = true := by simp; omega
    go_enter Try.func46, Try.ntmps46
    go_wp2_with fail
    refine upon_callv HG.out h0.out ?_
    rintro e w4 ⟨b, rfl, hbF, hn4⟩
    have HBF := hid hbF
    clear hbF
    go_wp2_with fail
    go_ret
    exact ⟨b, rfl, HBF.out.trans HC.out.symm, hn4⟩
  · have HC : Hid (comes f x most r ↔ ∃ j, 1 ≤ j ∧ j ≤ most ∧ (j : Int) ≤ r ∧ f j (behind r j)) := by show _ ↔ _; unfold comes; rw [if_neg h128]
    have hd : ¬ ((x : Int) < 128) := by omega
    obtain ⟨m, hm⟩ : ∃ m : Nat, (if r < (most : Int) then r else (most : Int)) = m := ⟨(if r < (most : Int) then r else (most : Int)).toNat, by split <;> omega⟩
    have hmj : ∀ j : Nat, j ≤ m ↔ j ≤ most ∧ (j : Int) ≤ r := by intro j; split at hm <;> omega
    have HMJ := hid hmj
    have mle : m ≤ most := (hmj m).1 (Nat.le_refl _) |>.1
    clear hmj
    go_enter Try.func46, Try.ntmps46
    go_wp2_with fail
    go_loopw [9, 10] (fun a _ wr => ∃ j : Nat, a = .int .i64 j ∧ 1 ≤ j ∧ j ≤ m + 1 ∧ New w wr ∧ ∀ i, 1 ≤ i → i < j → ¬ f i (behind r i)) (fun a _ _ => m + 1 - (intOf a).toNat)
    case atStart => exact ⟨1, rfl, Nat.le_refl _, by omega, Upd.refl _ _, fun i h1 h2 => absurd h1 (by omega)⟩
    case round =>
      obtain ⟨j, rfl, j1, j2, hw, hno⟩ := hrel
      have HW := hid hw
      have HNO := hid hno
      clear hw hno
      by_cases hj : j ≤ m
      · have hjm := (HMJ.out j).1 hj
        have hjr := hjm.2
        have hb : behind r j = if r < 1099511627776 then r - j else r := rfl
        by_cases hE : r < 1099511627776
        all_goals
          have h1 := hid (HO.out j (behind r j) wr HW.out hjm.1 (by rw [hb]; split <;> omega) (by rw [hb]; split <;> omega) (.inr (by omega)))
          first | rw [if_pos hE] at hb | rw [if_neg hE] at hb
          rw [hb] at h1
          have HB := hid hb
          clear hb hjm
          go_wp2_with fail
          refine upon_callv HG.out h1.out ?_
          rintro e w4 ⟨b, rfl, hbF, hn4⟩
          have HBF := hid hbF
          have HN4 := hid (New.trans HW.out hn4)
          clear hbF hn4
          cases b with
          | true =>
            go_wp2_with fail
            go_ret
            refine ⟨true, rfl, ?_, HN4.out⟩
            simp only [true_iff]
            exact HC.out.2 ⟨j, j1, (HMJ.out j).1 hj |>.1, hjr, by rw [HB.out]; exact HBF.out.1 (by first | rfl | trivial)⟩
          | false =>
            go_wp2_with fail
            go_roundw
            case rel =>
              refine ⟨j + 1, by go_num, by omega, by omega, HN4.out, ?_⟩
              intro i i1 i2
              rcases Nat.lt_or_ge i j with h | h
              · exact HNO.out i i1 h
              · have : i = j := by omega
                subst this
                rw [HB.out]
                exact fun hF => by simpa using HBF.out.2 hF
            case measure => simp [intOf]; omega
      · go_wp2_with fail
        go_ret
        refine ⟨false, rfl, ?_, HW.out⟩
        simp only [Bool.false_eq_true, false_iff]
        intro h
        obtain ⟨i, i1, i2, i3, i4⟩ := HC.out.1 h
        exact HNO.out i i1 (by have := (HMJ.out i).2 ⟨i2, i3⟩; omega) i4
end Go.Proofs.Ytkfohickmdkplaa
