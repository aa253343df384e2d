/-
  Whether an instruction may be: the document's Right.
-/
import Derived.Test.YtnngibflnnmioaaRr6
namespace Go.Proofs.Ytnngibflnnmioaa
open Go.RowKit Go.Proofs.Leb Go.Proofs.Own
set_option maxRecDepth 1000000
set_option maxHeartbeats 16000000

theorem rRight_any (m : Ins) (l : Value) (w : World) (c0 : 0 ≤ m.c) (c1 : m.c < 4294967296) (h1 : RdM .u32 w l m.li) (s1 : m.li.length ≤ 1000000) (s3 : m.ty.size ≤ 1000000) (s2 : m.raw.size ≤ 1000000)
    (n1 : -9223372036854775808 ≤ m.n) (n2 : m.n ≤ 9223372036854775807) (l0 : 0 ≤ m.lane) (l1 : m.lane < 256) :
    Calls Try.prog 7 #[rI m l] w (SameP (RightQ m) w) := by
  have HF := hid (fun w => rShape_any m.p m.c m.k m.t m.i m.x m.y l (.int .i64 m.n) (.int .u8 m.lane) (.string m.raw) (.string m.ty) w c0 c1)
  have HVA := hid (fun v w => rval_any v w)
  have HRF := hid (fun v w => rref_any v w)
  have HVS := hid (fun w => vals_ref m.ty w (by omega))
  obtain ⟨q, hq⟩ : ∃ q, RightQ m = q := ⟨_, rfl⟩
  have hQ2 : Hid (q = (0 ≤ (shapeV m.p m.c).1 ∧ ownQ (shapeV m.p m.c).1 (shapeV m.p m.c).2 m ∧ zap (shapeV m.p m.c).1 m = zeroI m.p m.c)) := hq.symm
  rw [hq]
  clear hq
  generalize shapeV m.p m.c = r at *
  obtain ⟨s, ln⟩ := r
  simp only at *
  obtain ⟨w0, hw0⟩ : ∃ w0, w.alloc (.cells (cellsR m l) 25) = w0 := ⟨_, rfl⟩
  have HN0 : Hid (New w w0) := by show New _ _; rw [← hw0]; exact (Upd.refl _ _).alloc _
  have HB0 : Hid (BoxR w0 w.heap.size m l) := by show BoxR _ _ _ _; rw [← hw0]; exact hp_new rfl
  unfold cellsR at hw0
  have HW := hid hw0
  clear hw0
  obtain ⟨p, c, k, t, i, x, y, li, n, raw, lane, ty⟩ := m
  obtain ⟨al, cl, rfl⟩ := h1.shape
  have HL := hid h1
  clear h1
  unfold rI
  simp only at *
  go_enter Try.func7, Try.ntmps7
  go_wp2_with fail
  rw [HW.out]
  refine (HF.out _).mono ?_
  rintro e wa ⟨rfl, hna⟩
  have HB := hid (hp1 HB0.out hna)
  have HN := hid (New.trans HN0.out hna)
  clear hna HB0 HN0 HF HW
  by_cases hs : s < 0
  · have HS := hid hs
    go_wp2_with fail
    go_ret
    refine ⟨false, rfl, ⟨(fun h => by cases h), (fun h => ?_)⟩, HN.out⟩
    rw [hQ2.out] at h
    exact absurd h.1 (Int.not_le.mpr HS.out)
  · have hs' : decide (s < 0) = false := decide_eq_false hs
    have HS := hid (Int.not_lt.mp hs)
    clear hs
    go_upto_region 4 with fail
    go_cut [68] (fun v wx => ∃ b, v = .bool b ∧ (b = true ↔ C1 s ⟨p, c, k, t, i, x, y, li, n, raw, lane, ty⟩) ∧ New wa wx)
    case first =>
      refine r4_any p c k t i x y n lane s li raw ty al cl w.heap.size wa HB.out _ _ _ _ _ _ _ _ _ _ _ _ _ _ _ _ _ _ _ _ _ _ _ _ _ _ _ _ _ _ _ _ _ _ _ _ _ _ _ _ _ _ _ _ _ _ _ _ _ _ _ _ _ _ _ _ _ _ _ _ _ _ _ _ _ _ _ _ _ _ _ _ _ _ _ _ _ _ _ _ _ _ _ _ _ _ _ _ _ _ _ _ _ _ _ _ _ _ _ _ _ _ _ _ _ _ _ _ _ _ _ _ _ _ _ _ _ _ _ _ _ _ _ _ _ _ _ _ _ _ _ _ _ _ _ _ _ _ _ _ _ _ _ _ _ _ _ _ _ _ _ _ _ _ _ _ _ _ _ _ _ _ _ _ _ _ _ _ _ _ _ _ _ _ _ _ _ _ _ _ _ _ _ _ _ _ _ _ _ _ _ _ _ _ _ _ _ _ _ _ _ _ _ _ _ _ _ _ _ _ _ _ _ _ ?_
      intro v13 v14 v15 v16 v17 v18 v19 v20 v21 v22 v23 v24 v25 v26 v27 v28 v29 v30 v31 v32 v33 v34 v35 v36 v37 v38 v39 v40 v41 v42 v43 v44 v45 v46 v47 v48 v49 v50 v51 v52 v53 v54 v55 v56 v57 v58 v59 v60 v61 v62 v63 v64 v65 v66 v67 b w2 hb hn
      dsimp only
      go_wp2_with fail
      go_meet
      exact ⟨b, rfl, hb, hn⟩
    case rest =>
      obtain ⟨b, rfl, hb, hn⟩ := hcut
      have HN1 := hid (New.trans HN.out hn)
      have HB1 := hid (hp1 HB.out hn)
      have HC1 := hid hb
      clear hb hn HB HN
      cases b with
      | true =>
        go_wp2_with fail
        go_ret
        refine ⟨false, rfl, ⟨(fun h => by cases h), (fun h => ?_)⟩, HN1.out⟩
        rw [hQ2.out] at h
        exact absurd h.2.2 (c1_not (HC1.out.mp (by first | rfl | trivial)))
      | false =>
        go_upto_region 6 with fail
        go_cut [109] (fun v wx => ∃ b, v = .bool b ∧ (b = true ↔ C2 s ⟨p, c, k, t, i, x, y, li, n, raw, lane, ty⟩) ∧ New wc wx)
        case first =>
          obtain ⟨wb, rfl⟩ : ∃ wb, wb = wc := ⟨_, rfl⟩
          refine r6_any p c k t i x y n lane s li raw ty al cl w.heap.size wb HB1.out _ _ _ _ _ _ _ _ _ _ _ _ _ _ _ _ _ _ _ _ _ _ _ _ _ _ _ _ _ _ _ _ _ _ _ _ _ _ _ _ _ _ _ _ _ _ _ _ _ _ _ _ _ _ _ _ _ _ _ _ _ _ _ _ _ _ _ _ _ _ _ _ _ _ _ _ _ _ _ _ _ _ _ _ _ _ _ _ _ _ _ _ _ _ _ _ _ _ _ _ _ _ _ _ _ _ _ _ _ _ _ _ _ _ _ _ _ _ _ _ _ _ _ _ _ _ _ _ _ _ _ _ _ _ _ _ _ _ _ _ _ _ _ _ _ _ _ _ _ _ _ _ _ _ _ _ _ _ _ _ _ _ _ _ _ _ _ _ _ _ _ _ _ _ _ _ _ _ _ _ _ _ _ _ _ _ _ _ _ _ _ _ _ _ _ _ _ _ _ _ _ _ _ _ _ _ _ _ _ _ _ _ _ _ ?_
          intro v69 v70 v71 v72 v73 v74 v75 v76 v77 v78 v79 v80 v81 v82 v83 v84 v85 v86 v87 v88 v89 v90 v91 v92 v93 v94 v95 v96 v97 v98 v99 v100 v101 v102 v103 v104 v105 v106 v107 v108 b w2 hb hn
          dsimp only
          go_wp2_with fail
          go_meet
          exact ⟨b, rfl, hb, hn⟩
        case rest =>
          obtain ⟨w2, rfl⟩ : ∃ w2, w2 = wc := ⟨_, rfl⟩
          obtain ⟨b, rfl, hb, hn⟩ := hcut
          have HN2 := hid (New.trans HN1.out hn)
          have HB2 := hid (hp1 HB1.out hn)
          have HC2 := hid hb
          clear hb hn HB1 HN1
          cases b with
          | true =>
            go_wp2_with fail
            go_ret
            refine ⟨false, rfl, ⟨(fun h => by cases h), (fun h => ?_)⟩, HN2.out⟩
            rw [hQ2.out] at h
            exact absurd h.2.2 (c2_not (HC2.out.mp (by first | rfl | trivial)))
          | false =>
            have HZ : Hid (∀ b : Bool, (b = true ↔ ownQ s ln ⟨p, c, k, t, i, x, y, li, n, raw, lane, ty⟩) → (b = true ↔ q)) := fun b hb => by
              rw [hQ2.out, hb]
              have h1 : ¬ C1 s ⟨p, c, k, t, i, x, y, li, n, raw, lane, ty⟩ := fun h => by have := HC1.out.mpr h; cases this
              have h2 : ¬ C2 s ⟨p, c, k, t, i, x, y, li, n, raw, lane, ty⟩ := fun h => by have := HC2.out.mpr h; cases this
              exact ⟨fun h => ⟨HS.out, h, c_zap h1 h2⟩, fun h => h.2.1⟩
            clear HC1 HC2 hQ2
            rcases shapes s with rfl | rfl | rfl | rfl | rfl | rfl | rfl | rfl | rfl | rfl | rfl | rfl | rfl | rfl | rfl | rfl | ⟨_, h1, h2, h3, h4, h5, h8, h9, h10, h11, h12, h13, h14, h15, h16, h17, h18⟩
            · -- 1
              have z2 : w2.cell? ⟨w.heap.size, 2, none⟩ = some (.int .i64 k) := cellAt HB2.out 2 rfl
              have z3 : w2.cell? ⟨w.heap.size, 3, none⟩ = some (.int .u8 t) := cellAt HB2.out 3 rfl
              have z4 : w2.cell? ⟨w.heap.size, 4, none⟩ = some (.int .u32 i) := cellAt HB2.out 4 rfl
              by_cases k0 : k = 0
              · subst k0
                by_cases t0 : t = 0
                · subst t0
                  by_cases i0 : i = 0
                  · subst i0
                    go_wp2_with fail
                    go_ret
                    exact ⟨_, rfl, HZ.out _ (by simp [ownQ, btV]), HN2.out⟩
                  · have ei : (i == 0) = false := beq_eq_false_iff_ne.mpr i0
                    have H1 := hid i0
                    clear i0
                    go_wp2_with fail
                    go_ret
                    exact ⟨_, rfl, HZ.out _ (by have := H1.out; simp [ownQ, btV, this]), HN2.out⟩
                · have et : (t == 0) = false := beq_eq_false_iff_ne.mpr t0
                  have H1 := hid t0
                  clear t0
                  go_wp2_with fail
                  go_ret
                  exact ⟨_, rfl, HZ.out _ (by have := H1.out; simp [ownQ, btV, this]), HN2.out⟩
              · have ek : (k == 0) = false := beq_eq_false_iff_ne.mpr k0
                by_cases k1 : k = 1
                · subst k1
                  clear k0
                  go_wp2_with fail
                  refine (HVA.out _ _).mono ?_
                  rintro e w' ⟨rfl, rfl⟩
                  obtain ⟨bv, hbv⟩ : ∃ bv, valV t = bv := ⟨_, rfl⟩
                  rw [hbv]
                  have HBV := hid hbv
                  clear hbv
                  by_cases i0 : i = 0
                  · have HI0 := hid i0
                    have ei : (i == 0) = true := beq_iff_eq.mpr i0
                    clear i0
                    cases bv with
                    | true =>
                      go_wp2_with fail
                      go_ret
                      exact ⟨_, rfl, HZ.out _ (by have h1 := HBV.out; have h2 := HI0.out; simp [ownQ, btV, h1, h2]), HN2.out⟩
                    | false =>
                      go_wp2_with fail
                      go_ret
                      exact ⟨_, rfl, HZ.out _ (by have h1 := HBV.out; have h2 := HI0.out; simp [ownQ, btV, h1, h2]), HN2.out⟩
                  · have HI0 := hid i0
                    have ei : (i == 0) = false := beq_eq_false_iff_ne.mpr i0
                    clear i0
                    cases bv with
                    | true =>
                      go_wp2_with fail
                      go_ret
                      exact ⟨_, rfl, HZ.out _ (by have h1 := HBV.out; have h2 := HI0.out; simp [ownQ, btV, h1, h2]), HN2.out⟩
                    | false =>
                      go_wp2_with fail
                      go_ret
                      exact ⟨_, rfl, HZ.out _ (by have h1 := HBV.out; have h2 := HI0.out; simp [ownQ, btV, h1, h2]), HN2.out⟩
                · have ek1 : (k == 1) = false := beq_eq_false_iff_ne.mpr k1
                  by_cases k2 : k = 2
                  · subst k2
                    clear k0 k1
                    by_cases t0 : t = 0
                    · subst t0
                      go_wp2_with fail
                      go_ret
                      exact ⟨_, rfl, HZ.out _ (by simp [ownQ, btV]), HN2.out⟩
                    · have et : (t == 0) = false := beq_eq_false_iff_ne.mpr t0
                      have H1 := hid t0
                      clear t0
                      go_wp2_with fail
                      go_ret
                      exact ⟨_, rfl, HZ.out _ (by have := H1.out; simp [ownQ, btV, this]), HN2.out⟩
                  · have ek2 : (k == 2) = false := beq_eq_false_iff_ne.mpr k2
                    have H1 := hid (And.intro k0 (And.intro k1 k2))
                    clear k0 k1 k2
                    go_wp2_with fail
                    go_ret
                    exact ⟨_, rfl, HZ.out _ (by have := H1.out; simp [ownQ, btV, this.1, this.2.1, this.2.2]), HN2.out⟩
            · -- 2
              go_wp2_with fail
              go_ret
              exact ⟨_, rfl, HZ.out _ (by simp [ownQ]), HN2.out⟩
            · -- 3
              go_wp2_with fail
              go_ret
              exact ⟨_, rfl, HZ.out _ (by simp [ownQ]), HN2.out⟩
            · -- 4
              go_wp2_with fail
              go_ret
              exact ⟨_, rfl, HZ.out _ (by simp [ownQ]), HN2.out⟩
            · -- 5
              go_wp2_with fail
              go_ret
              exact ⟨_, rfl, HZ.out _ (by simp [ownQ]), HN2.out⟩
            · -- 8
              go_wp2_with fail
              go_ret
              exact ⟨_, rfl, HZ.out _ (by simp [ownQ]), HN2.out⟩
            · -- 9
              have z8 : w2.cell? ⟨w.heap.size, 8, none⟩ = some (.int .i64 n) := cellAt HB2.out 8 rfl
              by_cases h1 : -2147483648 ≤ n
              · by_cases h2 : n ≤ 2147483647
                · have e1 : decide (-2147483648 ≤ n) = true := decide_eq_true h1
                  have e2 : decide (n ≤ 2147483647) = true := decide_eq_true h2
                  have H1 := hid (And.intro h1 h2)
                  clear h1 h2
                  go_wp2_with fail
                  go_ret
                  exact ⟨_, rfl, HZ.out _ (by have := H1.out; simp [ownQ, this]), HN2.out⟩
                · have e1 : decide (-2147483648 ≤ n) = true := decide_eq_true h1
                  have e2 : decide (n ≤ 2147483647) = false := decide_eq_false h2
                  have H1 := hid h2
                  clear h1 h2
                  go_wp2_with fail
                  go_ret
                  exact ⟨_, rfl, HZ.out _ (by have := H1.out; simp only [ownQ]; simp; omega), HN2.out⟩
              · have e1 : decide (-2147483648 ≤ n) = false := decide_eq_false h1
                have H1 := hid h1
                clear h1
                go_wp2_with fail
                go_ret
                exact ⟨_, rfl, HZ.out _ (by have := H1.out; simp only [ownQ]; simp; omega), HN2.out⟩
            · -- 10
              go_wp2_with fail
              go_ret
              exact ⟨_, rfl, HZ.out _ (by simp [ownQ]), HN2.out⟩
            · -- 11
              have z9 : w2.cell? ⟨w.heap.size, 9, none⟩ = some (.string raw) := cellAt HB2.out 9 rfl
              have HSZ := hid s2
              have zA : (w2.alloc (.cells #[.int .i64 4, .int .i64 8, .int .i64 16, .int .i64 16] 3)).cell? ⟨w.heap.size, 9, none⟩ = some (.string raw) := ((Upd.refl (fun _ => False) w2).alloc _).cell z9 (fun h => h)
              have ww : IntKind.i64.wrap 0 = 0 := by decide
              go_wp2_with fail
              go_loop [5] (fun c => c = .int .i64 0) (fun _ => 0)
              case atStart => rfl
              case round =>
                subst hrel
                by_cases h0 : 0 < raw.size
                · have HH0 := hid h0
                  go_wp2_with fail
                  go_region
                  all_goals go_wp2_with fail
                  all_goals go_ret
                  all_goals exact ⟨_, rfl, HZ.out _ (by simp [ownQ]; omega), (by first | exact (HN2.out.alloc _).drew | exact HN2.out.drew.alloc _)⟩
                · have HH0 := hid h0
                  go_wp2_with fail
                  go_region
                  all_goals go_wp2_with fail
                  all_goals go_ret
                  all_goals exact ⟨_, rfl, HZ.out _ (by simp [ownQ]; omega), (by first | exact (HN2.out.alloc _).drew | exact HN2.out.drew.alloc _)⟩
            · -- 12
              have z9 : w2.cell? ⟨w.heap.size, 9, none⟩ = some (.string raw) := cellAt HB2.out 9 rfl
              have HSZ := hid s2
              have zA : (w2.alloc (.cells #[.int .i64 4, .int .i64 8, .int .i64 16, .int .i64 16] 3)).cell? ⟨w.heap.size, 9, none⟩ = some (.string raw) := ((Upd.refl (fun _ => False) w2).alloc _).cell z9 (fun h => h)
              have ww : IntKind.i64.wrap 1 = 1 := by decide
              go_wp2_with fail
              go_loop [5] (fun c => c = .int .i64 0) (fun _ => 0)
              case atStart => rfl
              case round =>
                subst hrel
                by_cases h0 : 0 < raw.size
                · have HH0 := hid h0
                  go_wp2_with fail
                  go_region
                  all_goals go_wp2_with fail
                  all_goals go_ret
                  all_goals exact ⟨_, rfl, HZ.out _ (by simp [ownQ]; omega), (by first | exact (HN2.out.alloc _).drew | exact HN2.out.drew.alloc _)⟩
                · have HH0 := hid h0
                  go_wp2_with fail
                  go_region
                  all_goals go_wp2_with fail
                  all_goals go_ret
                  all_goals exact ⟨_, rfl, HZ.out _ (by simp [ownQ]; omega), (by first | exact (HN2.out.alloc _).drew | exact HN2.out.drew.alloc _)⟩
            · -- 13
              have z9 : w2.cell? ⟨w.heap.size, 9, none⟩ = some (.string raw) := cellAt HB2.out 9 rfl
              have HSZ := hid s2
              have zA : (w2.alloc (.cells #[.int .i64 4, .int .i64 8, .int .i64 16, .int .i64 16] 3)).cell? ⟨w.heap.size, 9, none⟩ = some (.string raw) := ((Upd.refl (fun _ => False) w2).alloc _).cell z9 (fun h => h)
              have ww : IntKind.i64.wrap 2 = 2 := by decide
              go_wp2_with fail
              go_loop [5] (fun c => c = .int .i64 0) (fun _ => 0)
              case atStart => rfl
              case round =>
                subst hrel
                by_cases h0 : 0 < raw.size
                · have HH0 := hid h0
                  go_wp2_with fail
                  go_region
                  all_goals go_wp2_with fail
                  all_goals go_ret
                  all_goals exact ⟨_, rfl, HZ.out _ (by simp [ownQ]; omega), (by first | exact (HN2.out.alloc _).drew | exact HN2.out.drew.alloc _)⟩
                · have HH0 := hid h0
                  go_wp2_with fail
                  go_region
                  all_goals go_wp2_with fail
                  all_goals go_ret
                  all_goals exact ⟨_, rfl, HZ.out _ (by simp [ownQ]; omega), (by first | exact (HN2.out.alloc _).drew | exact HN2.out.drew.alloc _)⟩
            · -- 14
              have z9 : w2.cell? ⟨w.heap.size, 9, none⟩ = some (.string raw) := cellAt HB2.out 9 rfl
              have HSZ := hid s2
              have zA : (w2.alloc (.cells #[.int .i64 4, .int .i64 8, .int .i64 16, .int .i64 16] 3)).cell? ⟨w.heap.size, 9, none⟩ = some (.string raw) := ((Upd.refl (fun _ => False) w2).alloc _).cell z9 (fun h => h)
              have ww : IntKind.i64.wrap 3 = 3 := by decide
              go_wp2_with fail
              go_loop [5] (fun c => ∃ j : Nat, c = .int .i64 j ∧ j ≤ raw.size ∧ ((lb raw).take j).all (fun x => decide ((x.toNat : Int) < 32)) = true) (fun c => raw.size - (intOf c).toNat)
              case atStart => exact ⟨0, rfl, by omega, by simp⟩
              case round =>
                obtain ⟨j, rfl, hj1, hj2⟩ := hrel
                by_cases hj : j < raw.size
                · have hg := lb_get raw j hj
                  obtain ⟨xe, hxe⟩ : ∃ xe, raw[j] = xe := ⟨_, rfl⟩
                  rw [hxe] at hg
                  have hx2 : raw[j].toNat = xe.toNat := by rw [hxe]
                  have HG := hid hg
                  have HJ2 := hid hj2
                  clear hg hj2 hxe
                  by_cases h31 : (31 : Int) < (xe.toNat : Int)
                  · have HH := hid h31
                    go_wp2_with fail
                    go_ret
                    exact ⟨_, rfl, HZ.out _ ⟨(fun h => by cases h), (fun h => by have h1 : small (lb raw) = true := h.2.2.2.2.2.1 rfl; have h2 : small (lb raw) = false := all_not HG.out (decide_eq_false (by have := HH.out; omega)); rw [h2] at h1; exact h1)⟩, HN2.out⟩
                  · have HH := hid h31
                    go_wp2_with fail
                    go_round
                    case rel => exact ⟨j + 1, by go_num, by omega, all_take HJ2.out HG.out (decide_eq_true (by have := HH.out; omega))⟩
                    case measure => simp [intOf]; omega
                · have e : j = raw.size := by omega
                  subst e
                  rw [← lb_len, List.take_length] at hj2
                  have HJ2 : Hid (small (lb raw) = true) := hj2
                  clear hj2
                  go_wp2_with fail
                  go_region
                  all_goals go_wp2_with fail
                  all_goals go_ret
                  all_goals exact ⟨_, rfl, HZ.out _ (by simp [ownQ, HJ2.out]; omega), (by first | exact (HN2.out.alloc _).drew | exact HN2.out.drew.alloc _)⟩
            · -- 15
              have z10 : w2.cell? ⟨w.heap.size, 10, none⟩ = some (.int .u8 lane) := cellAt HB2.out 10 rfl
              go_wp2_with fail
              go_ret
              exact ⟨_, rfl, HZ.out _ (by simp [ownQ]), HN2.out⟩
            · -- 16
              have z10 : w2.cell? ⟨w.heap.size, 10, none⟩ = some (.int .u8 lane) := cellAt HB2.out 10 rfl
              go_wp2_with fail
              go_ret
              exact ⟨_, rfl, HZ.out _ (by simp [ownQ]), HN2.out⟩
            · -- 17
              have z11 : w2.cell? ⟨w.heap.size, 11, none⟩ = some (.string ty) := cellAt HB2.out 11 rfl
              have hlt := lb_len ty
              by_cases h17 : ty.size = 1
              · obtain ⟨x0, hx0⟩ := len_pos_at (hlt.trans h17)
                have b17 : ((ty.size : Int) == 1) = true := by rw [h17]; rfl
                have hp : 0 < ty.size := by omega
                have hg := lb_get ty 0 hp
                rw [hx0] at hg
                have hg2 : ty[0].toNat = x0.toNat := by have := Option.some.inj hg; rw [← this]
                have HX := hid hx0
                clear hx0 hg h17 hlt
                go_wp2_with fail
                refine (HRF.out _ _).mono ?_
                rintro e w' ⟨rfl, rfl⟩
                clear z11
                go_wp2_with fail
                go_ret
                exact ⟨_, rfl, HZ.out _ (by simp [ownQ, HX.out, ref1]), HN2.out⟩
              · have b17 : ((ty.size : Int) == 1) = false := by rw [beq_eq_false_iff_ne]; omega
                have HX := hid (fun h : (lb ty).length = 1 => h17 (hlt.symm.trans h))
                clear h17 hlt
                go_wp2_with fail
                go_ret
                exact ⟨_, rfl, HZ.out _ (by simp [ownQ, ref1_not HX.out]), HN2.out⟩
            · -- 18
              have z11 : w2.cell? ⟨w.heap.size, 11, none⟩ = some (.string ty) := cellAt HB2.out 11 rfl
              go_wp2_with fail
              refine (HVS.out _).mono ?_
              rintro e w' ⟨rfl, rfl⟩
              clear z11
              go_wp2_with fail
              go_ret
              exact ⟨_, rfl, HZ.out _ (by simp [ownQ]), HN2.out⟩
            · have HO : Hid (ownQ s ln ⟨p, c, k, t, i, x, y, li, n, raw, lane, ty⟩) := own_plain ⟨h1, h2, h3, h4, h5, h8, h9, h10, h11, h12, h13, h14, h15, h16, h17, h18⟩
              have e1 : (s == 1) = false := beq_eq_false_iff_ne.mpr h1
              have e2 : (s == 2) = false := beq_eq_false_iff_ne.mpr h2
              have e3 : (s == 3) = false := beq_eq_false_iff_ne.mpr h3
              have e4 : (s == 4) = false := beq_eq_false_iff_ne.mpr h4
              have e5 : (s == 5) = false := beq_eq_false_iff_ne.mpr h5
              have e8 : (s == 8) = false := beq_eq_false_iff_ne.mpr h8
              have e9 : (s == 9) = false := beq_eq_false_iff_ne.mpr h9
              have e10 : (s == 10) = false := beq_eq_false_iff_ne.mpr h10
              have e11 : (s == 11) = false := beq_eq_false_iff_ne.mpr h11
              have e12 : (s == 12) = false := beq_eq_false_iff_ne.mpr h12
              have e13 : (s == 13) = false := beq_eq_false_iff_ne.mpr h13
              have e14 : (s == 14) = false := beq_eq_false_iff_ne.mpr h14
              have e15 : (s == 15) = false := beq_eq_false_iff_ne.mpr h15
              have e16 : (s == 16) = false := beq_eq_false_iff_ne.mpr h16
              have e17 : (s == 17) = false := beq_eq_false_iff_ne.mpr h17
              have e18 : (s == 18) = false := beq_eq_false_iff_ne.mpr h18
              clear h1 h2 h3 h4 h5 h8 h9 h10 h11 h12 h13 h14 h15 h16 h17 h18
              go_wp2_with fail
              go_ret
              exact ⟨_, rfl, HZ.out _ (by simp [HO.out]), HN2.out⟩
end Go.Proofs.Ytnngibflnnmioaa
