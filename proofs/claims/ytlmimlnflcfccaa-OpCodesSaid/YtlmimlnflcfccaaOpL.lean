/-
  The laws of ops: OpFinds.
-/
import Derived.Test.YtlmimlnflcfccaaOpV
import Derived.Test.YtlmimlnflcfccaaLebR
namespace Go.Proofs.Ytlmimlnflcfccaa
open Go.RowKit Go.Proofs.Own Go.Proofs.Leb
set_option maxRecDepth 100000
set_option maxHeartbeats 2000000

theorem enc21 : encU 21 0 = [21] := encU_last 21 (by decide)
theorem ops21 : opBytes 253 21 = [253, 21] := by unfold opBytes; rw [if_neg (by decide), enc21]; rfl

theorem awake6_any (w : World) : Calls Try.prog 56 #[] w fun e w' => e = .returned (.bool true) ∧ New w w' := by
  have HF : Hid (∀ w, Calls Try.prog 51 #[.agg #[.int .u8 253, .int .u32 21]] w fun e w' => e = .returned (.tuple #[.agg #[.int .i64 15, .int .i64 16], .bool true]) ∧ New w w') := fun w => by
    have h := Find_any 253 21 w (by decide) (by decide)
    rw [show findV 253 21 = (15, 16, true) by decide] at h
    exact h
  have HP : Hid (∀ w, Calls Try.prog 55 #[.agg #[.int .u8 253, .int .u32 21], .slice none 0 0] w (Post w (.slice none 0 0) [253, 21])) := fun w => by
    have h := Put_any (.slice none 0 0) [] 253 21 w (by decide) (by decide) (by decide) (Bytes.nil w)
    rw [ops21] at h
    exact h
  obtain ⟨w1, hw1⟩ : ∃ w1, w.alloc (.cells #[.int .u8 253, .int .u32 21] 80) = w1 := ⟨_, rfl⟩
  have HN1 : Hid (New w w1) := by show New _ _; rw [← hw1]; exact (Upd.refl _ _).alloc _
  have HB : Hid (Blk w1 w.heap.size (.int .u8 253) (.int .u32 21) 80) := by show Blk _ _ _ _ _; rw [← hw1]; exact Blk.mk
  have HW := hid hw1
  clear hw1
  go_enter Try.func56, Try.ntmps56
  go_wp2_with fail
  rw [HW.out]
  refine (HF.out _).mono ?_
  rintro e wa ⟨rfl, hna⟩
  have hb := HB.out.new hna
  have z0 : (wa.alloc (.cells #[.int .i64 15, .int .i64 16] 82)).cell? ⟨w.heap.size, 0, none⟩ = some (.int .u8 253) := ((Upd.refl (fun _ => False) wa).alloc _).cell hb.c0 (fun h => h)
  have z1 : (wa.alloc (.cells #[.int .i64 15, .int .i64 16] 82)).cell? ⟨w.heap.size, 1, none⟩ = some (.int .u32 21) := ((Upd.refl (fun _ => False) wa).alloc _).cell hb.c1 (fun h => h)
  have HNA := hid hna
  clear hna hb
  go_wp2_with fail
  refine (HP.out _).mono ?_
  rintro e wb ⟨vb, rfl, hbb, hab⟩
  have hs := hbb.rd.str
  have HAB := hid (Adds.nil hab).1
  clear hbb hab
  go_wp2_with fail
  go_ret
  exact ⟨rfl, New.trans HN1.out (New.trans HNA.out (New.trans ((Upd.refl _ _).alloc _) HAB.out))⟩

theorem cb_mod (c : Nat) : cb (UInt8.ofNat c) = .int .u8 ((c : Int) % 256) := by unfold cb; simp
theorem cb_nine : cb 9 = .int .u8 9 := rfl
theorem rd_two (w : World) (c : Nat) : Rd (w.alloc (.cells #[.int .u8 9, .int .u8 ((c : Int) % 256)] 5)) (.slice (some ⟨w.heap.size, 0, none⟩) 2 2) [9, UInt8.ofNat c] := by
  have h := Rd.lit w [9, UInt8.ofNat c] 5
  simp only [List.map_cons, List.map_nil, cb_mod, cb_nine] at h
  exact h
theorem rd_two' (w : World) (p : Nat) (hp : p < 256) : Rd (w.alloc (.cells #[.int .u8 9, .int .u8 p] 5)) (.slice (some ⟨w.heap.size, 0, none⟩) 2 2) [9, UInt8.ofNat p] := by
  have h := Rd.lit w [9, UInt8.ofNat p] 5
  simp only [List.map_cons, List.map_nil, cb_of _ hp, cb_nine] at h
  exact h
theorem rd_one (w : World) : Rd (w.alloc (.cells #[.int .u8 9] 5)) (.slice (some ⟨w.heap.size, 0, none⟩) 1 1) [9] := by
  have h := Rd.lit w [9] 5
  simp only [List.map_cons, List.map_nil, cb_nine] at h
  exact h
theorem own_one (w : World) : Bytes (w.alloc (.cells #[.int .u8 9] 5)) (.slice (some ⟨w.heap.size, 0, none⟩) 1 1) [9] :=
  ⟨rfl, .inr ⟨w.heap.size, 1, _, rfl, Nat.zero_le _, heap_alloc_new w _, Nat.le_refl _, by decide, rfl, rfl⟩⟩

theorem opFinds_walk (p c : Nat) (s : Int) (w : World) (hp : p < 256) (hc : c < 4294967296) : Calls Try.prog 14 #[.int .u8 p, .int .u32 c, .int .i64 s] w (True' w) := by
  have HF := hid (fun w => Find_any p c w (by omega) (by omega))
  have HS := hid (fun w => Shape_any p c w (by omega) (by omega))
  obtain ⟨a1, a2⟩ := find_shape p c (by omega)
  generalize findV p c = f at *
  generalize shapeV p c = r at *
  obtain ⟨f1, f2, f3⟩ := f
  obtain ⟨r1, r2⟩ := r
  simp only at a1 a2
  obtain ⟨w1, hw1⟩ : ∃ w1, w.alloc (.cells #[.int .u8 p, .int .u32 c] 80) = w1 := ⟨_, rfl⟩
  have HN1 : Hid (New w w1) := by show New _ _; rw [← hw1]; exact (Upd.refl _ _).alloc _
  have HB : Hid (Blk w1 w.heap.size (.int .u8 p) (.int .u32 c) 80) := by show Blk _ _ _ _ _; rw [← hw1]; exact Blk.mk
  have HW := hid hw1
  clear hw1
  have hcases : (f3 = true ∧ 0 ≤ r1 ∧ f1 = r1 ∧ f2 = r2) ∨ (f3 = false ∧ r1 < 0 ∧ f1 = 0 ∧ f2 = 0) := by
    cases f3 with
    | true => exact .inl ⟨rfl, of_decide_eq_true a1.symm, (by rw [if_pos rfl] at a2; exact a2)⟩
    | false => exact .inr ⟨rfl, Int.not_le.mp (of_decide_eq_false a1.symm), (by rw [if_neg (by decide)] at a2; exact a2)⟩
  clear a1 a2
  go_enter Try.func14, Try.ntmps14
  go_upto_region 2 with fail
  rw [HW.out]
  go_cut [8, 9] (fun x y wx => ∃ g, x = .pointer (some ⟨g, 0, none⟩) ∧ y = .bool f3 ∧ New w1 wx ∧ Blk wx g (.int .i64 f1) (.int .i64 f2) 82)
  case first =>
    have z0 := HB.out.c0
    have z1 := HB.out.c1
    go_wp2_with fail
    refine (HF.out _).mono ?_
    rintro e wa ⟨rfl, hna⟩
    clear z0 z1
    go_wp2_with fail
    go_meet
    exact ⟨_, rfl, rfl, hna.alloc _, Blk.mk⟩
  case rest =>
    obtain ⟨g, rfl, rfl, hn2, hbi⟩ := hcut
    obtain ⟨w2, rfl⟩ : ∃ w2, w2 = wc := ⟨_, rfl⟩
    have B2 := hid (HB.out.new hn2)
    have BI := hid hbi
    have N2 := hid (New.trans HN1.out hn2)
    clear HB hn2 hbi HN1 HW
    go_upto_region 3 with fail
    go_cut [10, 11] (fun x y wx => x = .int .i64 r1 ∧ y = .int .i64 r2 ∧ New w2 wx)
    case first =>
      go_wp2_with fail
      refine (HS.out _).mono ?_
      rintro e wa ⟨rfl, hna⟩
      go_wp2_with fail
      go_meet
      exact ⟨rfl, rfl, hna⟩
    case rest =>
      obtain ⟨rfl, rfl, hn3⟩ := hcut
      obtain ⟨w3, rfl⟩ : ∃ w3, w3 = wc := ⟨_, rfl⟩
      have B3 := hid (B2.out.new hn3)
      have b3 := BI.out.new hn3
      have N3 := hid (New.trans N2.out hn3)
      have z0 := b3.c0
      have z1 := b3.c1
      clear hn3 B2 BI N2 b3
      go_upto_region 4 with fail
      go_cut [49] (fun x wx => x = .bool false ∧ w3 = wx)
      case first =>
        rcases hcases with ⟨rfl, h0, rfl, rfl⟩ | ⟨rfl, h0, rfl, rfl⟩
        · have d0 : decide (0 ≤ f1) = true := decide_eq_true h0
          go_wp2_with fail
          go_meet
          exact ⟨rfl, rfl⟩
        · have d0 : decide (0 ≤ r1) = false := decide_eq_false (by omega)
          go_wp2_with fail
          go_meet
          exact ⟨rfl, rfl⟩
      case rest =>
        obtain ⟨rfl, rfl⟩ := hcut
        clear z0 z1 hcases
        go_upto_region 6 with fail
        go_cut [12] (fun x wx => Rd wx x [9, UInt8.ofNat c] ∧ New w3 wx)
        case first =>
          go_wp2_with fail
          go_meet
          exact ⟨rd_two w3 c, (Upd.refl _ _).alloc _⟩
        case rest =>
          obtain ⟨hr4, hn4⟩ := hcut
          obtain ⟨w4, rfl⟩ : ∃ w4, w4 = wc := ⟨_, rfl⟩
          obtain ⟨a4, c4, rfl⟩ := hr4.shape
          have HR4 := hid hr4
          have HN4 := hid hn4
          clear hr4 hn4
          go_upto_if 54 with fail
          go_cut [12] (fun x wx => Rd wx x ([9] ++ opBytes p c) ∧ New w3 wx)
          case first =>
            by_cases h0 : p = 0
            · have HE := hid (show opBytes p c = [UInt8.ofNat c] from if_pos h0)
              subst h0
              go_wp2_with fail
              go_meet
              exact ⟨by rw [HE.out]; exact HR4.out, HN4.out⟩
            · have HE := hid (show opBytes p c = UInt8.ofNat p :: encU c 0 from if_neg h0)
              have e0 : ((p : Int) != 0) = true := bne_iff_ne.mpr (by omega)
              have HR := hid (rd_two' w4 p hp)
              clear h0
              go_wp2_with fail
              refine (refPutU_any _ _ c 0 _ (by omega) (by decide) (by simp) HR.out).mono ?_
              rintro e wb ⟨vb, rfl, hbb, hnb, _⟩
              go_wp2_with fail
              go_meet
              exact ⟨by rw [HE.out]; exact hbb.rd, New.trans HN4.out (New.trans ((Upd.refl _ _).alloc _) hnb)⟩
          case rest =>
            obtain ⟨hr5, hn5⟩ := hcut
            obtain ⟨w5, rfl⟩ : ∃ w5, w5 = wc := ⟨_, rfl⟩
            obtain ⟨LB, hLB⟩ : ∃ LB, [9] ++ opBytes p c = LB := ⟨_, rfl⟩
            rw [hLB] at hr5
            have HPT := hid (fun v w h => Put_any v [9] p c w hp hc (by decide) h)
            rw [hLB] at HPT
            have HR5 := hid hr5
            have N5 := hid (New.trans N3.out hn5)
            have B5 := hid (B3.out.new hn5)
            have HSP := hid (fun w => infoSpan_any s 0 w)
            have HRS := hid (fun w => rSpan_any s w)
            generalize spanV s = sp at *
            obtain ⟨s1, s2⟩ := sp
            have HOW := hid (own_any s1 s2)
            obtain ⟨a5, c5, rfl⟩ := hr5.shape
            have y0 := hid B5.out.c0
            have y1 := hid B5.out.c1
            clear HR4 HN4 hr5 hn5 hLB B3 N3
            go_wp2_with fail
            have hn : New w5 w5.drew := (Upd.refl _ _).drew
            refine wp_region_noPanic ?_
            refine wp_region_held_drew (S := (New w5)) (by kernel_rfl) (by first | exact hn | exact (Upd.refl _ _).drew | exact Upd.drew (by assumption)) (fun hn => ?_)
            generalize w5.drew = wd at *
            refine wpAnyH_take (i := 0) (oi := { dst := some 60, op := Op.move (Operand.tmp 2), type := 3, pos := "law.go:30", after := #[], guard := none }) (v := ?v33x1) rfl (by kernel_rfl) (by kernel_rfl) (by kernel_rfl) (fun _ _ _ h => h) (Or.inl ⟨by rfl, ?y33x1⟩) hn ?r33x1
            case y33x1 => (intro wS hS; (try go_simp); (try with_reducible rfl))
            try simp only [Act.put, List.setIfInBounds_toArray, List.set_cons_zero, List.set_cons_succ]
            refine wpAnyH_take (i := 1) (oi := { dst := some 61, op := Op.build 82 #[(0, Operand.tmp 60)], type := 82, pos := "law.go:30", after := #[{ on := 0, ground := Ground.data }], guard := none }) (v := ?v33x2) rfl (by kernel_rfl) (by kernel_rfl) (by kernel_rfl) (fun _ _ _ h => h) (Or.inl ⟨by rfl, ?y33x2⟩) hn ?r33x2
            case y33x2 => (intro wS hS; (try go_simp); (try with_reducible rfl))
            try simp only [Act.put, List.setIfInBounds_toArray, List.set_cons_zero, List.set_cons_succ]
            refine wpAnyH_take (i := 3) (oi := { dst := some 63, op := Op.move (Operand.tmp 2), type := 3, pos := "law.go:30", after := #[], guard := none }) (v := ?v33x3) rfl (by kernel_rfl) (by kernel_rfl) (by kernel_rfl) (fun _ _ _ h => h) (Or.inl ⟨by rfl, ?y33x3⟩) hn ?r33x3
            case y33x3 => (intro wS hS; (try go_simp); (try with_reducible rfl))
            try simp only [Act.put, List.setIfInBounds_toArray, List.set_cons_zero, List.set_cons_succ]
            refine wpAnyH_ready (rs := [2]) (by kernel_rfl) (by simp) ?_
            refine AllReadyH.cons (o := { dst := some 62, op := Op.call { callee := Callee.value (Operand.func 53), args := #[Operand.tmp 61], argTypes := #[82] }, type := 48, pos := "law.go:30", after := #[{ on := 1, ground := Ground.data }], guard := none }) rfl (fun K hK => ?_) AllReadyH.nil
            go_simp
            refine (HSP.out _).mono ?_
            rintro e wa ⟨rfl, hna⟩
            go_wp2_with fail
            have hn := New.trans hn hna
            refine hK.out _ _ (by first | exact hn | exact Upd.alloc hn _) (fun hn => ?_)
            clear hK K
            try simp only [Act.put, List.setIfInBounds_toArray, List.set_cons_zero, List.set_cons_succ]
            refine wpAnyH_ready (rs := [4]) (by kernel_rfl) (by simp) ?_
            refine AllReadyH.cons (o := { dst := some 64, op := Op.call { callee := Callee.value (Operand.func 54), args := #[Operand.tmp 63], argTypes := #[3] }, type := 46, pos := "law.go:30", after := #[{ on := 3, ground := Ground.data }, { on := 2, ground := Ground.chain }], guard := none }) rfl (fun K hK => ?_) AllReadyH.nil
            go_simp
            refine (HRS.out _).mono ?_
            rintro e wa ⟨rfl, hna⟩
            go_wp2_with fail
            have hn := New.trans hn hna
            refine hK.out _ _ (by first | exact hn | exact Upd.alloc hn _) (fun hn => ?_)
            clear hK K
            try simp only [Act.put, List.setIfInBounds_toArray, List.set_cons_zero, List.set_cons_succ]
            refine wpAnyH_ready (rs := [5]) (by kernel_rfl) (by simp) ?_
            refine AllReadyH.cons (o := { dst := some 65, op := Op.call { callee := Callee.value (Operand.func 29), args := #[Operand.tmp 64], argTypes := #[46] }, type := 48, pos := "law.go:30", after := #[{ on := 4, ground := Ground.data }, { on := 4, ground := Ground.chain }], guard := none }) rfl (fun K hK => ?_) AllReadyH.nil
            go_simp
            refine (HOW.out _).mono ?_
            rintro e wa ⟨rfl, hna⟩
            go_wp2_with fail
            have hn := New.trans hn hna
            have hq := hn
            refine hK.out _ _ (by first | exact hn | exact Upd.alloc hn _) (fun hn => ?_)
            clear hK K
            try simp only [Act.put, List.setIfInBounds_toArray, List.set_cons_zero, List.set_cons_succ]
            refine wpAnyH_take (i := 6) (oi := { dst := some 66, op := Op.binOp BinOp.eql 48 (Operand.tmp 62) (Operand.tmp 65) 48, type := 4, pos := "law.go:30", after := #[{ on := 2, ground := Ground.data }, { on := 5, ground := Ground.data }], guard := none }) (v := ?v33x4) rfl (by kernel_rfl) (by kernel_rfl) (by kernel_rfl) (fun _ _ _ h => h) (Or.inl ⟨by rfl, ?y33x4⟩) hn ?r33x4
            case y33x4 => (intro wS hS; (try go_simp); (try with_reducible rfl))
            try simp only [Act.put, List.setIfInBounds_toArray, List.set_cons_zero, List.set_cons_succ]
            refine wpAnyH_take (i := 7) (oi := { dst := some 67, op := Op.move (Operand.tmp 66), type := 4, pos := "law.go:30", after := #[{ on := 6, ground := Ground.data }, { on := 5, ground := Ground.chain }], guard := none }) (v := ?v33x5) rfl (by kernel_rfl) (by kernel_rfl) (by kernel_rfl) (fun _ _ _ h => h) (Or.inl ⟨by rfl, ?y33x5⟩) hn ?r33x5
            case y33x5 => (intro wS hS; (try go_simp); (try with_reducible rfl))
            try simp only [Act.put, List.setIfInBounds_toArray, List.set_cons_zero, List.set_cons_succ]
            refine wpAnyH_take (i := 8) (oi := { dst := some 68, op := Op.load 80 (Operand.tmp 7), type := 80, pos := "law.go:30", after := #[{ on := 7, ground := Ground.guard }], guard := some (7, true) }) (v := ?v33x6) rfl (by kernel_rfl) (by kernel_rfl) (by kernel_rfl) (fun _ _ _ h => h) (Or.inl ⟨by rfl, ?y33x6⟩) hn ?r33x6
            case y33x6 => (intro wS hS; have c0 := hS.cell y0.out (fun h => h); have c1 := hS.cell y1.out (fun h => h); (try go_simp); (try with_reducible rfl))
            try simp only [Act.put, List.setIfInBounds_toArray, List.set_cons_zero, List.set_cons_succ]
            refine wpAnyH_take (i := 12) (oi := { dst := some 72, op := Op.move (Operand.tmp 12), type := 22, pos := "law.go:30", after := #[{ on := 7, ground := Ground.guard }], guard := some (7, true) }) (v := ?v33x7) rfl (by kernel_rfl) (by kernel_rfl) (by kernel_rfl) (fun _ _ _ h => h) (Or.inl ⟨by rfl, ?y33x7⟩) hn ?r33x7
            case y33x7 => (intro wS hS; (try go_simp); (try with_reducible rfl))
            try simp only [Act.put, List.setIfInBounds_toArray, List.set_cons_zero, List.set_cons_succ]
            refine wpAnyH_take (i := 13) (oi := { dst := some 73, op := Op.convert 22 9 (Operand.tmp 72), type := 9, pos := "law.go:30", after := #[{ on := 12, ground := Ground.data }, { on := 7, ground := Ground.guard }], guard := some (7, true) }) (v := ?v33x8) rfl (by kernel_rfl) (by kernel_rfl) (by kernel_rfl) (fun _ _ _ h => h) (Or.inl ⟨by rfl, ?y33x8⟩) hn ?r33x8
            case y33x8 => (intro wS hS; have e := (HR5.out.new hS).str; (try go_simp); (try with_reducible rfl))
            try simp only [Act.put, List.setIfInBounds_toArray, List.set_cons_zero, List.set_cons_succ]
            refine wpAnyH_ready (rs := [9]) (by kernel_rfl) (by simp) ?_
            refine AllReadyH.cons (o := { dst := some 69, op := Op.buildSlice 22 1 #[(0, Operand.const (Value.int IntKind.u8 9))], type := 22, pos := "law.go:30", after := #[{ on := 7, ground := Ground.guard }], guard := some (7, true) }) rfl (fun K hK => ?_) AllReadyH.nil
            have hown := own_one wa
            go_simp
            refine hK.out _ _ (by first | exact hn | exact Upd.alloc hn _) (fun hn => ?_)
            clear hK K
            try simp only [Act.put, List.setIfInBounds_toArray, List.set_cons_zero, List.set_cons_succ]
            refine wpAnyH_ready (rs := [10]) (by kernel_rfl) (by simp) ?_
            refine AllReadyH.cons (o := { dst := some 70, op := Op.call { callee := Callee.value (Operand.func 55), args := #[Operand.tmp 68, Operand.tmp 69], argTypes := #[80, 22] }, type := 22, pos := "law.go:30", after := #[{ on := 8, ground := Ground.data }, { on := 9, ground := Ground.data }, { on := 7, ground := Ground.chain }, { on := 7, ground := Ground.guard }], guard := some (7, true) }) rfl (fun K hK => ?_) AllReadyH.nil
            go_simp
            refine (HPT.out _ _ hown).mono ?_
            rintro e wp ⟨vp, rfl, hbp, hap⟩
            go_wp2_with fail
            obtain ⟨hn2, hf2⟩ := Adds.made' rfl hq hap
            have hn := hn2
            have hs := hbp.rd.str
            refine hK.out _ _ (by first | exact hn | exact Upd.alloc hn _) (fun hn => ?_)
            clear hK K
            try simp only [Act.put, List.setIfInBounds_toArray, List.set_cons_zero, List.set_cons_succ]
            refine wpAnyH_ready (rs := [11]) (by kernel_rfl) (by simp) ?_
            refine AllReadyH.cons (o := { dst := some 71, op := Op.convert 22 9 (Operand.tmp 70), type := 9, pos := "law.go:30", after := #[{ on := 10, ground := Ground.data }, { on := 7, ground := Ground.guard }], guard := some (7, true) }) rfl (fun K hK => ?_) AllReadyH.nil
            go_simp
            refine hK.out _ _ (by first | exact hn | exact Upd.alloc hn _) (fun hn => ?_)
            clear hK K
            try simp only [Act.put, List.setIfInBounds_toArray, List.set_cons_zero, List.set_cons_succ]
            refine wpAnyH_take (i := 14) (oi := { dst := some 74, op := Op.binOp BinOp.eql 9 (Operand.tmp 71) (Operand.tmp 73) 9, type := 4, pos := "law.go:30", after := #[{ on := 11, ground := Ground.data }, { on := 13, ground := Ground.data }, { on := 7, ground := Ground.guard }], guard := some (7, true) }) (v := ?v33x9) rfl (by kernel_rfl) (by kernel_rfl) (by kernel_rfl) (fun _ _ _ h => h) (Or.inl ⟨by rfl, ?y33x9⟩) hn ?r33x9
            case y33x9 => (intro wS hS; (try go_simp); (try with_reducible rfl))
            try simp only [Act.put, List.setIfInBounds_toArray, List.set_cons_zero, List.set_cons_succ]
            refine wpAnyH_take (i := 15) (oi := { dst := some 75, op := Op.pick (Operand.tmp 67) (Operand.tmp 74) (Operand.const (Value.bool false)), type := 4, pos := "law.go:30", after := #[{ on := 7, ground := Ground.data }, { on := 14, ground := Ground.data }], guard := none }) (v := ?v33x10) rfl (by kernel_rfl) (by kernel_rfl) (by kernel_rfl) (fun _ _ _ h => h) (Or.inl ⟨by rfl, ?y33x10⟩) hn ?r33x10
            case y33x10 => (intro wS hS; (try go_simp); (try with_reducible rfl))
            try simp only [Act.put, List.setIfInBounds_toArray, List.set_cons_zero, List.set_cons_succ]
            refine wpAnyH_take (i := 16) (oi := { dst := some 76, op := Op.move (Operand.tmp 75), type := 4, pos := "law.go:30", after := #[{ on := 15, ground := Ground.data }, { on := 10, ground := Ground.chain }], guard := none }) (v := ?v33x11) rfl (by kernel_rfl) (by kernel_rfl) (by kernel_rfl) (fun _ _ _ h => h) (Or.inl ⟨by rfl, ?y33x11⟩) hn ?r33x11
            case y33x11 => (intro wS hS; (try go_simp); (try with_reducible rfl))
            try simp only [Act.put, List.setIfInBounds_toArray, List.set_cons_zero, List.set_cons_succ]
            refine wpAnyH_ready (rs := [17]) (by kernel_rfl) (by simp) ?_
            refine AllReadyH.cons (o := { dst := some 77, op := Op.call { callee := Callee.value (Operand.func 56), args := #[], argTypes := #[] }, type := 4, pos := "law.go:30", after := #[{ on := 16, ground := Ground.chain }, { on := 16, ground := Ground.guard }], guard := some (16, true) }) rfl (fun K hK => ?_) AllReadyH.nil
            go_simp
            refine (awake6_any _).mono ?_
            rintro e wz ⟨rfl, hnz⟩
            go_wp2_with fail
            have hn := New.trans hn hnz
            refine hK.out _ _ (by first | exact hn | exact Upd.alloc hn _) (fun hn => ?_)
            clear hK K
            try simp only [Act.put, List.setIfInBounds_toArray, List.set_cons_zero, List.set_cons_succ]
            refine wpAnyH_take (i := 18) (oi := { dst := some 78, op := Op.pick (Operand.tmp 76) (Operand.tmp 77) (Operand.const (Value.bool false)), type := 4, pos := "law.go:30", after := #[{ on := 16, ground := Ground.data }, { on := 17, ground := Ground.data }], guard := none }) (v := ?v33x12) rfl (by kernel_rfl) (by kernel_rfl) (by kernel_rfl) (fun _ _ _ h => h) (Or.inl ⟨by rfl, ?y33x12⟩) hn ?r33x12
            case y33x12 => (intro wS hS; (try go_simp); (try with_reducible rfl))
            try simp only [Act.put, List.setIfInBounds_toArray, List.set_cons_zero, List.set_cons_succ]
            refine wpAnyH_take (i := 19) (oi := { dst := some 6, op := Op.assign (Operand.tmp 78), type := 4, pos := "law.go:30", after := #[{ on := 18, ground := Ground.data }, { on := 17, ground := Ground.chain }, { on := 0, ground := Ground.phase }, { on := 1, ground := Ground.phase }, { on := 2, ground := Ground.phase }, { on := 3, ground := Ground.phase }, { on := 4, ground := Ground.phase }, { on := 5, ground := Ground.phase }, { on := 6, ground := Ground.phase }, { on := 7, ground := Ground.phase }, { on := 8, ground := Ground.phase }, { on := 9, ground := Ground.phase }, { on := 10, ground := Ground.phase }, { on := 11, ground := Ground.phase }, { on := 12, ground := Ground.phase }, { on := 13, ground := Ground.phase }, { on := 14, ground := Ground.phase }, { on := 15, ground := Ground.phase }, { on := 16, ground := Ground.phase }, { on := 17, ground := Ground.phase }, { on := 18, ground := Ground.phase }], guard := none }) (v := ?v33x13) rfl (by kernel_rfl) (by kernel_rfl) (by kernel_rfl) (fun _ _ _ h => h) (Or.inl ⟨by rfl, ?y33x13⟩) hn ?r33x13
            case y33x13 => (intro wS hS; (try go_simp); (try with_reducible rfl))
            try simp only [Act.put, List.setIfInBounds_toArray, List.set_cons_zero, List.set_cons_succ]
            refine wpAnyH_done (by kernel_rfl) ?_ _
            refine NoPanic.normal ?_
            go_wp2_with fail
            go_ret
            exact ⟨rfl, New.trans N5.out hn⟩
end Go.Proofs.Ytlmimlnflcfccaa
