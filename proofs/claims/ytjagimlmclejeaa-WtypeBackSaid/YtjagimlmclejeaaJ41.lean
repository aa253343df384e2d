/-
  The bytes of types: the document's.
-/
import Derived.Test.YtjagimlmclejeaaJ26
import Derived.Test.YtjagimlmclejeaaJ38
namespace Go.Proofs.Ytjagimlmclejeaa
open Go.RowKit Go.Proofs.Leb Go.Proofs.Own
set_option maxRecDepth 100000
set_option maxHeartbeats 4000000

theorem bit_any (b : Bool) (w : World) : Calls Try.prog 45 #[.bool b] w (Says [bitB b] w) := by
  cases b with
  | true =>
    go_enter Try.func45, Try.ntmps45
    go_wp2_with fail
    go_ret
    exact ⟨rfl, Upd.refl _ _⟩
  | false =>
    go_enter Try.func45, Try.ntmps45
    go_wp2_with fail
    go_ret
    exact ⟨rfl, Upd.refl _ _⟩
theorem lmPutR_any (h : Bool) (mn mx more : Nat) (w : World) (hm : mn < 4294967296) (hx : mx < 4294967296) (hmo : more ≤ 1000) :
    Calls Try.prog 24 #[.agg #[.bool h, .int .u32 mn, .int .u32 mx], .int .i64 more] w (Says (lmB h mn mx more) w) := by
  have H1 := hid (fun w => bit_any h w)
  have H2 := hid (fun w => num_any mn more w hm hmo)
  have H3 := hid (fun w => num_any mx more w hx hmo)
  have HW : Hid (Bx1 w #[.bool h, .int .u32 mn, .int .u32 mx] 26 (w.alloc (.cells #[.bool h, .int .u32 mn, .int .u32 mx] 26))) := Bx1.mk0
  have hl2 := (numV_len hm more).2
  have hl3 := (numV_len hx more).2
  unfold Says at H1 H2 H3
  have HE : Hid (lmB h mn mx more = [bitB h] ++ numV mn more ++ if h = true then numV mx more else []) := by
    show _ = _
    unfold lmB
    simp
  rw [HE.out]
  generalize bitB h = x1 at *
  generalize numV mn more = x2 at *
  generalize numV mx more = x3 at *
  have hc : ¬ 9223372036854775807 < 1 + x2.length := by omega
  obtain ⟨x12, hx12⟩ : ∃ x12, [x1] ++ x2 = x12 := ⟨_, rfl⟩
  have hc2 : ¬ 9223372036854775807 < x12.length + x3.length := by rw [← hx12, List.length_append, List.length_cons, List.length_nil]; omega
  have HX12 := hid hx12
  rw [hx12]
  clear hx12
  obtain ⟨x4, hx4⟩ : ∃ x4, (if h = true then x3 else []) = x4 := ⟨_, rfl⟩
  have HX4 := hid hx4
  rw [hx4]
  clear hx4
  go_enter Try.func24, Try.ntmps24
  go_wp2_with fail
  generalize w.alloc (.cells #[.bool h, .int .u32 mn, .int .u32 mx] 26) = w0 at *
  go_cut [5] (fun o wx => o = .string ⟨x12.toArray⟩ ∧ Bx1 w #[.bool h, .int .u32 mn, .int .u32 mx] 26 wx)
  case first =>
    have hn := HW.out.new (Upd.refl _ w0).drew
    refine wp_region_noPanic ?_
    refine wp_region_held_drew (S := (Bx1 w #[.bool h, .int .u32 mn, .int .u32 mx] 26)) (by kernel_rfl) (by first | exact hn | exact (Upd.refl _ _).drew | exact Upd.drew (by assumption)) (fun hn => ?_)
    generalize w0.drew = wd at *
    refine wpAnyH_take (i := 0) (oi := { dst := some 6, op := Op.fieldAddr 26 (Operand.tmp 2) 0, type := 0, pos := "ref.go:76", after := #[], guard := none }) (v := ?v1x1) rfl (by kernel_rfl) (by kernel_rfl) (by kernel_rfl) (fun _ _ _ h => h) (Or.inl ⟨by rfl, ?y1x1⟩) hn ?r1x1
    case y1x1 => (intro wS hS; (try go_simp); (try with_reducible rfl))
    try simp only [Act.put, List.setIfInBounds_toArray, List.set_cons_zero, List.set_cons_succ]
    refine wpAnyH_take (i := 1) (oi := { dst := some 7, op := Op.load 4 (Operand.tmp 6), type := 4, pos := "ref.go:76", after := #[{ on := 0, ground := Ground.data }], guard := none }) (v := ?v1x2) rfl (by kernel_rfl) (by kernel_rfl) (by kernel_rfl) (fun _ _ _ h => h) (Or.inl ⟨by rfl, ?y1x2⟩) hn ?r1x2
    case y1x2 => (intro wS hS; have c0 := hS.at 0 rfl; (try go_simp); (try with_reducible rfl))
    try simp only [Act.put, List.setIfInBounds_toArray, List.set_cons_zero, List.set_cons_succ]
    refine wpAnyH_take (i := 3) (oi := { dst := some 9, op := Op.fieldAddr 26 (Operand.tmp 2) 1, type := 0, pos := "ref.go:76", after := #[], guard := none }) (v := ?v1x3) rfl (by kernel_rfl) (by kernel_rfl) (by kernel_rfl) (fun _ _ _ h => h) (Or.inl ⟨by rfl, ?y1x3⟩) hn ?r1x3
    case y1x3 => (intro wS hS; (try go_simp); (try with_reducible rfl))
    try simp only [Act.put, List.setIfInBounds_toArray, List.set_cons_zero, List.set_cons_succ]
    refine wpAnyH_take (i := 4) (oi := { dst := some 10, op := Op.load 24 (Operand.tmp 9), type := 24, pos := "ref.go:76", after := #[{ on := 3, ground := Ground.data }], guard := none }) (v := ?v1x4) rfl (by kernel_rfl) (by kernel_rfl) (by kernel_rfl) (fun _ _ _ h => h) (Or.inl ⟨by rfl, ?y1x4⟩) hn ?r1x4
    case y1x4 => (intro wS hS; have c0 := hS.at 1 rfl; (try go_simp); (try with_reducible rfl))
    try simp only [Act.put, List.setIfInBounds_toArray, List.set_cons_zero, List.set_cons_succ]
    refine wpAnyH_take (i := 5) (oi := { dst := some 11, op := Op.move (Operand.tmp 1), type := 3, pos := "ref.go:76", after := #[], guard := none }) (v := ?v1x5) rfl (by kernel_rfl) (by kernel_rfl) (by kernel_rfl) (fun _ _ _ h => h) (Or.inl ⟨by rfl, ?y1x5⟩) hn ?r1x5
    case y1x5 => (intro wS hS; (try go_simp); (try with_reducible rfl))
    try simp only [Act.put, List.setIfInBounds_toArray, List.set_cons_zero, List.set_cons_succ]
    refine wpAnyH_ready (rs := [2]) (by kernel_rfl) (by simp) ?_
    refine AllReadyH.cons (o := { dst := some 8, op := Op.call { callee := Callee.value (Operand.func 45), args := #[Operand.tmp 7], argTypes := #[4] }, type := 9, pos := "ref.go:76", after := #[{ on := 1, ground := Ground.data }], guard := none }) rfl (fun K hK => ?_) AllReadyH.nil
    go_simp
    refine (H1.out _).mono ?_
    rintro e wq ⟨rfl, hnq⟩
    go_wp2_with fail
    have hn := hn.new hnq
    refine hK.out _ _ (by first | exact hn | exact Upd.alloc hn _) (fun hn => ?_)
    clear hK K
    try simp only [Act.put, List.setIfInBounds_toArray, List.set_cons_zero, List.set_cons_succ]
    refine wpAnyH_ready (rs := [6]) (by kernel_rfl) (by simp) ?_
    refine AllReadyH.cons (o := { dst := some 12, op := Op.call { callee := Callee.value (Operand.func 44), args := #[Operand.tmp 10, Operand.tmp 11], argTypes := #[24, 3] }, type := 9, pos := "ref.go:76", after := #[{ on := 4, ground := Ground.data }, { on := 5, ground := Ground.data }, { on := 2, ground := Ground.chain }], guard := none }) rfl (fun K hK => ?_) AllReadyH.nil
    go_simp
    refine (H2.out _).mono ?_
    rintro e wr ⟨rfl, hnq⟩
    go_wp2_with fail
    have hn := hn.new hnq
    refine hK.out _ _ (by first | exact hn | exact Upd.alloc hn _) (fun hn => ?_)
    clear hK K
    try simp only [Act.put, List.setIfInBounds_toArray, List.set_cons_zero, List.set_cons_succ]
    refine wpAnyH_take (i := 7) (oi := { dst := some 13, op := Op.binOp BinOp.add 9 (Operand.tmp 8) (Operand.tmp 12) 9, type := 9, pos := "ref.go:76", after := #[{ on := 2, ground := Ground.data }, { on := 6, ground := Ground.data }], guard := none }) (v := ?v1x6) rfl (by kernel_rfl) (by kernel_rfl) (by kernel_rfl) (fun _ _ _ h => h) (Or.inl ⟨by rfl, ?y1x6⟩) hn ?r1x6
    case y1x6 => (intro wS hS; (try go_simp); (try with_reducible rfl))
    try simp only [Act.put, List.setIfInBounds_toArray, List.set_cons_zero, List.set_cons_succ]
    refine wpAnyH_take (i := 8) (oi := { dst := some 5, op := Op.assign (Operand.tmp 13), type := 9, pos := "ref.go:76", after := #[{ on := 7, ground := Ground.data }, { on := 6, ground := Ground.chain }, { on := 0, ground := Ground.phase }, { on := 1, ground := Ground.phase }, { on := 2, ground := Ground.phase }, { on := 3, ground := Ground.phase }, { on := 4, ground := Ground.phase }, { on := 5, ground := Ground.phase }, { on := 6, ground := Ground.phase }, { on := 7, ground := Ground.phase }], guard := none }) (v := ?v1x7) rfl (by kernel_rfl) (by kernel_rfl) (by kernel_rfl) (fun _ _ _ h => h) (Or.inl ⟨by rfl, ?y1x7⟩) hn ?r1x7
    case y1x7 => (intro wS hS; (try go_simp); (try with_reducible rfl))
    try simp only [Act.put, List.setIfInBounds_toArray, List.set_cons_zero, List.set_cons_succ]
    refine wpAnyH_done (by kernel_rfl) ?_ _
    refine NoPanic.normal ?_
    go_wp2_with fail
    go_meet
    exact ⟨by rw [← HX12.out, ← st_cat], hn⟩
  case rest =>
    obtain ⟨rfl, hw⟩ := hcut
    have c0 := hw.at 0 rfl
    have HW2 := hid hw
    clear hw
    cases h with
    | false =>
      go_wp2_with fail
      go_ret
      refine ⟨?_, HW2.out.1⟩
      rw [← HX4.out]
      simp
    | true =>
      have c2 := HW2.out.at 2 rfl
      go_wp2_with fail
      refine (H3.out _).mono ?_
      rintro e wr ⟨rfl, hnq⟩
      have HN3 := hid (HW2.out.new hnq)
      clear hnq c0 c2
      go_wp2_with fail
      go_ret
      refine ⟨?_, HN3.out.1⟩
      rw [← HX4.out, if_pos trivial, ← st_cat]
      rfl
theorem tbPutR_any (e : UInt8) (h : Bool) (mn mx more : Nat) (w : World) (hm : mn < 4294967296) (hx : mx < 4294967296) (hmo : more ≤ 1000) :
    Calls Try.prog 26 #[.agg #[.int .u8 e.toNat, .bool h, .int .u32 mn, .int .u32 mx], .int .i64 more] w (Says (tbB e h mn mx more) w) := by
  have HP := hid (fun w => lmPutR_any h mn mx more w hm hx hmo)
  have hl := lmB_len (h := h) hm hx more
  have HE : Hid (tbB e h mn mx more = [e] ++ lmB h mn mx more) := rfl
  rw [HE.out]
  unfold Says at HP
  generalize lmB h mn mx more = L at *
  obtain ⟨x, hx1⟩ : ∃ x, e.toNat = x := ⟨_, rfl⟩
  have hxl := u8_lt e
  rw [hx1] at hxl
  have HS : Hid (UInt8.ofNat x = e) := by show _ = _; rw [← hx1]; exact UInt8.toNat_inj.mp (u8_of _ (u8_lt e))
  have HW : Hid (Bx1 w #[.int .u8 e.toNat, .bool h, .int .u32 mn, .int .u32 mx] 28 (w.alloc (.cells #[.int .u8 e.toNat, .bool h, .int .u32 mn, .int .u32 mx] 28))) := Bx1.mk0
  rw [hx1] at HW ⊢
  have hc : ¬ 9223372036854775807 < 1 + L.length := by omega
  clear hx1
  go_enter Try.func26, Try.ntmps26
  go_wp2_with fail
  generalize w.alloc (.cells #[.int .u8 x, .bool h, .int .u32 mn, .int .u32 mx] 28) = w0 at *
  have hn := HW.out.new (Upd.refl _ w0).drew
  refine wp_region_noPanic ?_
  refine wp_region_held_drew (S := (Bx1 w #[.int .u8 x, .bool h, .int .u32 mn, .int .u32 mx] 28)) (by kernel_rfl) (by first | exact hn | exact (Upd.refl _ _).drew | exact Upd.drew (by assumption)) (fun hn => ?_)
  generalize w0.drew = wd at *
  refine wpAnyH_take (i := 0) (oi := { dst := some 5, op := Op.fieldAddr 28 (Operand.tmp 2) 0, type := 0, pos := "ref.go:84", after := #[], guard := none }) (v := ?v2x1) rfl (by kernel_rfl) (by kernel_rfl) (by kernel_rfl) (fun _ _ _ h => h) (Or.inl ⟨by rfl, ?y2x1⟩) hn ?r2x1
  case y2x1 => (intro wS hS; (try go_simp); (try with_reducible rfl))
  try simp only [Act.put, List.setIfInBounds_toArray, List.set_cons_zero, List.set_cons_succ]
  refine wpAnyH_take (i := 1) (oi := { dst := some 6, op := Op.load 5 (Operand.tmp 5), type := 5, pos := "ref.go:84", after := #[{ on := 0, ground := Ground.data }], guard := none }) (v := ?v2x2) rfl (by kernel_rfl) (by kernel_rfl) (by kernel_rfl) (fun _ _ _ h => h) (Or.inl ⟨by rfl, ?y2x2⟩) hn ?r2x2
  case y2x2 => (intro wS hS; have c0 := hS.at 0 rfl; (try go_simp); (try with_reducible rfl))
  try simp only [Act.put, List.setIfInBounds_toArray, List.set_cons_zero, List.set_cons_succ]
  refine wpAnyH_take (i := 4) (oi := { dst := some 9, op := Op.fieldAddr 28 (Operand.tmp 2) 1, type := 0, pos := "ref.go:84", after := #[], guard := none }) (v := ?v2x3) rfl (by kernel_rfl) (by kernel_rfl) (by kernel_rfl) (fun _ _ _ h => h) (Or.inl ⟨by rfl, ?y2x3⟩) hn ?r2x3
  case y2x3 => (intro wS hS; (try go_simp); (try with_reducible rfl))
  try simp only [Act.put, List.setIfInBounds_toArray, List.set_cons_zero, List.set_cons_succ]
  refine wpAnyH_take (i := 5) (oi := { dst := some 10, op := Op.load 26 (Operand.tmp 9), type := 26, pos := "ref.go:84", after := #[{ on := 4, ground := Ground.data }], guard := none }) (v := ?v2x4) rfl (by kernel_rfl) (by kernel_rfl) (by kernel_rfl) (fun _ _ _ h => h) (Or.inl ⟨by rfl, ?y2x4⟩) hn ?r2x4
  case y2x4 => (intro wS hS; have c0 := hS.at 1 rfl; have c1 := hS.at 2 rfl; have c2 := hS.at 3 rfl; (try go_simp); (try with_reducible rfl))
  try simp only [Act.put, List.setIfInBounds_toArray, List.set_cons_zero, List.set_cons_succ]
  refine wpAnyH_take (i := 6) (oi := { dst := some 11, op := Op.move (Operand.tmp 1), type := 3, pos := "ref.go:84", after := #[], guard := none }) (v := ?v2x5) rfl (by kernel_rfl) (by kernel_rfl) (by kernel_rfl) (fun _ _ _ h => h) (Or.inl ⟨by rfl, ?y2x5⟩) hn ?r2x5
  case y2x5 => (intro wS hS; (try go_simp); (try with_reducible rfl))
  try simp only [Act.put, List.setIfInBounds_toArray, List.set_cons_zero, List.set_cons_succ]
  refine wpAnyH_ready (rs := [2, 7]) (by kernel_rfl) (by simp) ?_
  refine AllReadyH.cons (o := { dst := some 7, op := Op.buildSlice 50 1 #[(0, Operand.tmp 6)], type := 50, pos := "ref.go:84", after := #[{ on := 1, ground := Ground.data }], guard := none }) rfl (fun K hK => ?_) ?_
  · skip
    go_simp
    refine boxStep ?_
    intro W2 hu hz
    have hn := hn.new hu
    have hr := rd1 hz hxl
    rw [HS.out] at hr
    clear hz
    refine hK.out _ _ (by first | exact hn | exact Upd.alloc hn _) (fun hn => ?_)
    clear hK K
    try simp only [Act.put, List.setIfInBounds_toArray, List.set_cons_zero, List.set_cons_succ]
    refine wpAnyH_ready (rs := [3, 7]) (by kernel_rfl) (by simp) ?_
    refine AllReadyH.cons (o := { dst := some 8, op := Op.convert 50 9 (Operand.tmp 7), type := 9, pos := "ref.go:84", after := #[{ on := 2, ground := Ground.data }], guard := none }) rfl (fun K hK => ?_) ?_
    · skip
      have hs := hr.str
      go_simp
      refine hK.out _ _ (by first | exact hn | exact Upd.alloc hn _) (fun hn => ?_)
      clear hK K
      try simp only [Act.put, List.setIfInBounds_toArray, List.set_cons_zero, List.set_cons_succ]
      refine wpAnyH_ready (rs := [7]) (by kernel_rfl) (by simp) ?_
      refine AllReadyH.cons (o := { dst := some 12, op := Op.call { callee := Callee.value (Operand.func 24), args := #[Operand.tmp 10, Operand.tmp 11], argTypes := #[26, 3] }, type := 9, pos := "ref.go:84", after := #[{ on := 5, ground := Ground.data }, { on := 6, ground := Ground.data }], guard := none }) rfl (fun K hK => ?_) AllReadyH.nil
      go_simp
      refine (HP.out _).mono ?_
      rintro e' W4 ⟨rfl, hnq⟩
      go_wp2_with fail
      have hn := hn.new hnq
      (try have hr := hr.new hnq)
      refine hK.out _ _ (by first | exact hn | exact Upd.alloc hn _) (fun hn => ?_)
      clear hK K
      try simp only [Act.put, List.setIfInBounds_toArray, List.set_cons_zero, List.set_cons_succ]
      refine wpAnyH_take (i := 8) (oi := { dst := some 13, op := Op.binOp BinOp.add 9 (Operand.tmp 8) (Operand.tmp 12) 9, type := 9, pos := "ref.go:84", after := #[{ on := 3, ground := Ground.data }, { on := 7, ground := Ground.data }], guard := none }) (v := ?v2x6) rfl (by kernel_rfl) (by kernel_rfl) (by kernel_rfl) (fun _ _ _ h => h) (Or.inl ⟨by rfl, ?y2x6⟩) hn ?r2x6
      case y2x6 => (intro wS hS; (try go_simp); (try with_reducible rfl))
      try simp only [Act.put, List.setIfInBounds_toArray, List.set_cons_zero, List.set_cons_succ]
      refine wpAnyH_take (i := 9) (oi := { dst := some 4, op := Op.assign (Operand.tmp 13), type := 9, pos := "ref.go:84", after := #[{ on := 8, ground := Ground.data }, { on := 7, ground := Ground.chain }, { on := 0, ground := Ground.phase }, { on := 1, ground := Ground.phase }, { on := 2, ground := Ground.phase }, { on := 3, ground := Ground.phase }, { on := 4, ground := Ground.phase }, { on := 5, ground := Ground.phase }, { on := 6, ground := Ground.phase }, { on := 7, ground := Ground.phase }, { on := 8, ground := Ground.phase }], guard := none }) (v := ?v2x7) rfl (by kernel_rfl) (by kernel_rfl) (by kernel_rfl) (fun _ _ _ h => h) (Or.inl ⟨by rfl, ?y2x7⟩) hn ?r2x7
      case y2x7 => (intro wS hS; (try go_simp); (try with_reducible rfl))
      try simp only [Act.put, List.setIfInBounds_toArray, List.set_cons_zero, List.set_cons_succ]
      refine wpAnyH_done (by kernel_rfl) ?_ _
      refine NoPanic.normal ?_
      go_wp2_with fail
      go_ret
      exact ⟨congrArg (fun s => Ending.returned (Value.string s)) (st_cat [e] L), hn.1⟩
    refine AllReadyH.cons (o := { dst := some 12, op := Op.call { callee := Callee.value (Operand.func 24), args := #[Operand.tmp 10, Operand.tmp 11], argTypes := #[26, 3] }, type := 9, pos := "ref.go:84", after := #[{ on := 5, ground := Ground.data }, { on := 6, ground := Ground.data }], guard := none }) rfl (fun K hK => ?_) AllReadyH.nil
    go_simp
    refine (HP.out _).mono ?_
    rintro e' W4 ⟨rfl, hnq⟩
    go_wp2_with fail
    have hn := hn.new hnq
    (try have hr := hr.new hnq)
    refine hK.out _ _ (by first | exact hn | exact Upd.alloc hn _) (fun hn => ?_)
    clear hK K
    try simp only [Act.put, List.setIfInBounds_toArray, List.set_cons_zero, List.set_cons_succ]
    refine wpAnyH_ready (rs := [3]) (by kernel_rfl) (by simp) ?_
    refine AllReadyH.cons (o := { dst := some 8, op := Op.convert 50 9 (Operand.tmp 7), type := 9, pos := "ref.go:84", after := #[{ on := 2, ground := Ground.data }], guard := none }) rfl (fun K hK => ?_) AllReadyH.nil
    have hs := hr.str
    go_simp
    refine hK.out _ _ (by first | exact hn | exact Upd.alloc hn _) (fun hn => ?_)
    clear hK K
    try simp only [Act.put, List.setIfInBounds_toArray, List.set_cons_zero, List.set_cons_succ]
    refine wpAnyH_take (i := 8) (oi := { dst := some 13, op := Op.binOp BinOp.add 9 (Operand.tmp 8) (Operand.tmp 12) 9, type := 9, pos := "ref.go:84", after := #[{ on := 3, ground := Ground.data }, { on := 7, ground := Ground.data }], guard := none }) (v := ?v2x8) rfl (by kernel_rfl) (by kernel_rfl) (by kernel_rfl) (fun _ _ _ h => h) (Or.inl ⟨by rfl, ?y2x8⟩) hn ?r2x8
    case y2x8 => (intro wS hS; (try go_simp); (try with_reducible rfl))
    try simp only [Act.put, List.setIfInBounds_toArray, List.set_cons_zero, List.set_cons_succ]
    refine wpAnyH_take (i := 9) (oi := { dst := some 4, op := Op.assign (Operand.tmp 13), type := 9, pos := "ref.go:84", after := #[{ on := 8, ground := Ground.data }, { on := 7, ground := Ground.chain }, { on := 0, ground := Ground.phase }, { on := 1, ground := Ground.phase }, { on := 2, ground := Ground.phase }, { on := 3, ground := Ground.phase }, { on := 4, ground := Ground.phase }, { on := 5, ground := Ground.phase }, { on := 6, ground := Ground.phase }, { on := 7, ground := Ground.phase }, { on := 8, ground := Ground.phase }], guard := none }) (v := ?v2x9) rfl (by kernel_rfl) (by kernel_rfl) (by kernel_rfl) (fun _ _ _ h => h) (Or.inl ⟨by rfl, ?y2x9⟩) hn ?r2x9
    case y2x9 => (intro wS hS; (try go_simp); (try with_reducible rfl))
    try simp only [Act.put, List.setIfInBounds_toArray, List.set_cons_zero, List.set_cons_succ]
    refine wpAnyH_done (by kernel_rfl) ?_ _
    refine NoPanic.normal ?_
    go_wp2_with fail
    go_ret
    exact ⟨congrArg (fun s => Ending.returned (Value.string s)) (st_cat [e] L), hn.1⟩
  refine AllReadyH.cons (o := { dst := some 12, op := Op.call { callee := Callee.value (Operand.func 24), args := #[Operand.tmp 10, Operand.tmp 11], argTypes := #[26, 3] }, type := 9, pos := "ref.go:84", after := #[{ on := 5, ground := Ground.data }, { on := 6, ground := Ground.data }], guard := none }) rfl (fun K hK => ?_) AllReadyH.nil
  go_simp
  refine (HP.out _).mono ?_
  rintro e' W4 ⟨rfl, hnq⟩
  go_wp2_with fail
  have hn := hn.new hnq
  (try have hr := hr.new hnq)
  refine hK.out _ _ (by first | exact hn | exact Upd.alloc hn _) (fun hn => ?_)
  clear hK K
  try simp only [Act.put, List.setIfInBounds_toArray, List.set_cons_zero, List.set_cons_succ]
  refine wpAnyH_ready (rs := [2]) (by kernel_rfl) (by simp) ?_
  refine AllReadyH.cons (o := { dst := some 7, op := Op.buildSlice 50 1 #[(0, Operand.tmp 6)], type := 50, pos := "ref.go:84", after := #[{ on := 1, ground := Ground.data }], guard := none }) rfl (fun K hK => ?_) AllReadyH.nil
  go_simp
  refine boxStep ?_
  intro W2 hu hz
  have hn := hn.new hu
  have hr := rd1 hz hxl
  rw [HS.out] at hr
  clear hz
  refine hK.out _ _ (by first | exact hn | exact Upd.alloc hn _) (fun hn => ?_)
  clear hK K
  try simp only [Act.put, List.setIfInBounds_toArray, List.set_cons_zero, List.set_cons_succ]
  refine wpAnyH_ready (rs := [3]) (by kernel_rfl) (by simp) ?_
  refine AllReadyH.cons (o := { dst := some 8, op := Op.convert 50 9 (Operand.tmp 7), type := 9, pos := "ref.go:84", after := #[{ on := 2, ground := Ground.data }], guard := none }) rfl (fun K hK => ?_) AllReadyH.nil
  have hs := hr.str
  go_simp
  refine hK.out _ _ (by first | exact hn | exact Upd.alloc hn _) (fun hn => ?_)
  clear hK K
  try simp only [Act.put, List.setIfInBounds_toArray, List.set_cons_zero, List.set_cons_succ]
  refine wpAnyH_take (i := 8) (oi := { dst := some 13, op := Op.binOp BinOp.add 9 (Operand.tmp 8) (Operand.tmp 12) 9, type := 9, pos := "ref.go:84", after := #[{ on := 3, ground := Ground.data }, { on := 7, ground := Ground.data }], guard := none }) (v := ?v2x10) rfl (by kernel_rfl) (by kernel_rfl) (by kernel_rfl) (fun _ _ _ h => h) (Or.inl ⟨by rfl, ?y2x10⟩) hn ?r2x10
  case y2x10 => (intro wS hS; (try go_simp); (try with_reducible rfl))
  try simp only [Act.put, List.setIfInBounds_toArray, List.set_cons_zero, List.set_cons_succ]
  refine wpAnyH_take (i := 9) (oi := { dst := some 4, op := Op.assign (Operand.tmp 13), type := 9, pos := "ref.go:84", after := #[{ on := 8, ground := Ground.data }, { on := 7, ground := Ground.chain }, { on := 0, ground := Ground.phase }, { on := 1, ground := Ground.phase }, { on := 2, ground := Ground.phase }, { on := 3, ground := Ground.phase }, { on := 4, ground := Ground.phase }, { on := 5, ground := Ground.phase }, { on := 6, ground := Ground.phase }, { on := 7, ground := Ground.phase }, { on := 8, ground := Ground.phase }], guard := none }) (v := ?v2x11) rfl (by kernel_rfl) (by kernel_rfl) (by kernel_rfl) (fun _ _ _ h => h) (Or.inl ⟨by rfl, ?y2x11⟩) hn ?r2x11
  case y2x11 => (intro wS hS; (try go_simp); (try with_reducible rfl))
  try simp only [Act.put, List.setIfInBounds_toArray, List.set_cons_zero, List.set_cons_succ]
  refine wpAnyH_done (by kernel_rfl) ?_ _
  refine NoPanic.normal ?_
  go_wp2_with fail
  go_ret
  exact ⟨congrArg (fun s => Ending.returned (Value.string s)) (st_cat [e] L), hn.1⟩
theorem gtPutR_any (t : UInt8) (m : Bool) (w : World) :
    Calls Try.prog 28 #[.agg #[.int .u8 t.toNat, .bool m]] w (Says [t, bitB m] w) := by
  have HP := hid (fun w => bit_any m w)
  unfold Says at HP
  have HE : Hid ([t, bitB m] = [t] ++ [bitB m]) := rfl
  rw [HE.out]
  generalize bitB m = L at *
  obtain ⟨x, hx1⟩ : ∃ x, t.toNat = x := ⟨_, rfl⟩
  have hxl := u8_lt t
  rw [hx1] at hxl
  have HS : Hid (UInt8.ofNat x = t) := by show _ = _; rw [← hx1]; exact UInt8.toNat_inj.mp (u8_of _ (u8_lt t))
  have HW : Hid (Bx1 w #[.int .u8 t.toNat, .bool m] 30 (w.alloc (.cells #[.int .u8 t.toNat, .bool m] 30))) := Bx1.mk0
  rw [hx1] at HW ⊢
  clear hx1
  go_enter Try.func28, Try.ntmps28
  go_wp2_with fail
  generalize w.alloc (.cells #[.int .u8 x, .bool m] 30) = w0 at *
  have hn := HW.out.new (Upd.refl _ w0).drew
  refine wp_region_noPanic ?_
  refine wp_region_held_drew (S := (Bx1 w #[.int .u8 x, .bool m] 30)) (by kernel_rfl) (by first | exact hn | exact (Upd.refl _ _).drew | exact Upd.drew (by assumption)) (fun hn => ?_)
  generalize w0.drew = wd at *
  refine wpAnyH_take (i := 0) (oi := { dst := some 3, op := Op.fieldAddr 30 (Operand.tmp 1) 0, type := 0, pos := "ref.go:87", after := #[], guard := none }) (v := ?v3x1) rfl (by kernel_rfl) (by kernel_rfl) (by kernel_rfl) (fun _ _ _ h => h) (Or.inl ⟨by rfl, ?y3x1⟩) hn ?r3x1
  case y3x1 => (intro wS hS; (try go_simp); (try with_reducible rfl))
  try simp only [Act.put, List.setIfInBounds_toArray, List.set_cons_zero, List.set_cons_succ]
  refine wpAnyH_take (i := 1) (oi := { dst := some 4, op := Op.load 5 (Operand.tmp 3), type := 5, pos := "ref.go:87", after := #[{ on := 0, ground := Ground.data }], guard := none }) (v := ?v3x2) rfl (by kernel_rfl) (by kernel_rfl) (by kernel_rfl) (fun _ _ _ h => h) (Or.inl ⟨by rfl, ?y3x2⟩) hn ?r3x2
  case y3x2 => (intro wS hS; have c0 := hS.at 0 rfl; (try go_simp); (try with_reducible rfl))
  try simp only [Act.put, List.setIfInBounds_toArray, List.set_cons_zero, List.set_cons_succ]
  refine wpAnyH_take (i := 4) (oi := { dst := some 7, op := Op.fieldAddr 30 (Operand.tmp 1) 1, type := 0, pos := "ref.go:87", after := #[], guard := none }) (v := ?v3x3) rfl (by kernel_rfl) (by kernel_rfl) (by kernel_rfl) (fun _ _ _ h => h) (Or.inl ⟨by rfl, ?y3x3⟩) hn ?r3x3
  case y3x3 => (intro wS hS; (try go_simp); (try with_reducible rfl))
  try simp only [Act.put, List.setIfInBounds_toArray, List.set_cons_zero, List.set_cons_succ]
  refine wpAnyH_take (i := 5) (oi := { dst := some 8, op := Op.load 4 (Operand.tmp 7), type := 4, pos := "ref.go:87", after := #[{ on := 4, ground := Ground.data }], guard := none }) (v := ?v3x4) rfl (by kernel_rfl) (by kernel_rfl) (by kernel_rfl) (fun _ _ _ h => h) (Or.inl ⟨by rfl, ?y3x4⟩) hn ?r3x4
  case y3x4 => (intro wS hS; have c0 := hS.at 1 rfl; (try go_simp); (try with_reducible rfl))
  try simp only [Act.put, List.setIfInBounds_toArray, List.set_cons_zero, List.set_cons_succ]
  refine wpAnyH_ready (rs := [2, 6]) (by kernel_rfl) (by simp) ?_
  refine AllReadyH.cons (o := { dst := some 5, op := Op.buildSlice 50 1 #[(0, Operand.tmp 4)], type := 50, pos := "ref.go:87", after := #[{ on := 1, ground := Ground.data }], guard := none }) rfl (fun K hK => ?_) ?_
  · skip
    go_simp
    refine boxStep ?_
    intro W2 hu hz
    have hn := hn.new hu
    have hr := rd1 hz hxl
    rw [HS.out] at hr
    clear hz
    refine hK.out _ _ (by first | exact hn | exact Upd.alloc hn _) (fun hn => ?_)
    clear hK K
    try simp only [Act.put, List.setIfInBounds_toArray, List.set_cons_zero, List.set_cons_succ]
    refine wpAnyH_ready (rs := [3, 6]) (by kernel_rfl) (by simp) ?_
    refine AllReadyH.cons (o := { dst := some 6, op := Op.convert 50 9 (Operand.tmp 5), type := 9, pos := "ref.go:87", after := #[{ on := 2, ground := Ground.data }], guard := none }) rfl (fun K hK => ?_) ?_
    · skip
      have hs := hr.str
      go_simp
      refine hK.out _ _ (by first | exact hn | exact Upd.alloc hn _) (fun hn => ?_)
      clear hK K
      try simp only [Act.put, List.setIfInBounds_toArray, List.set_cons_zero, List.set_cons_succ]
      refine wpAnyH_ready (rs := [6]) (by kernel_rfl) (by simp) ?_
      refine AllReadyH.cons (o := { dst := some 9, op := Op.call { callee := Callee.value (Operand.func 45), args := #[Operand.tmp 8], argTypes := #[4] }, type := 9, pos := "ref.go:87", after := #[{ on := 5, ground := Ground.data }], guard := none }) rfl (fun K hK => ?_) AllReadyH.nil
      go_simp
      refine (HP.out _).mono ?_
      rintro e W4 ⟨rfl, hnq⟩
      go_wp2_with fail
      have hn := hn.new hnq
      (try have hr := hr.new hnq)
      refine hK.out _ _ (by first | exact hn | exact Upd.alloc hn _) (fun hn => ?_)
      clear hK K
      try simp only [Act.put, List.setIfInBounds_toArray, List.set_cons_zero, List.set_cons_succ]
      refine wpAnyH_take (i := 7) (oi := { dst := some 10, op := Op.binOp BinOp.add 9 (Operand.tmp 6) (Operand.tmp 9) 9, type := 9, pos := "ref.go:87", after := #[{ on := 3, ground := Ground.data }, { on := 6, ground := Ground.data }], guard := none }) (v := ?v3x5) rfl (by kernel_rfl) (by kernel_rfl) (by kernel_rfl) (fun _ _ _ h => h) (Or.inl ⟨by rfl, ?y3x5⟩) hn ?r3x5
      case y3x5 => (intro wS hS; (try go_simp); (try with_reducible rfl))
      try simp only [Act.put, List.setIfInBounds_toArray, List.set_cons_zero, List.set_cons_succ]
      refine wpAnyH_take (i := 8) (oi := { dst := some 2, op := Op.assign (Operand.tmp 10), type := 9, pos := "ref.go:87", after := #[{ on := 7, ground := Ground.data }, { on := 6, ground := Ground.chain }, { on := 0, ground := Ground.phase }, { on := 1, ground := Ground.phase }, { on := 2, ground := Ground.phase }, { on := 3, ground := Ground.phase }, { on := 4, ground := Ground.phase }, { on := 5, ground := Ground.phase }, { on := 6, ground := Ground.phase }, { on := 7, ground := Ground.phase }], guard := none }) (v := ?v3x6) rfl (by kernel_rfl) (by kernel_rfl) (by kernel_rfl) (fun _ _ _ h => h) (Or.inl ⟨by rfl, ?y3x6⟩) hn ?r3x6
      case y3x6 => (intro wS hS; (try go_simp); (try with_reducible rfl))
      try simp only [Act.put, List.setIfInBounds_toArray, List.set_cons_zero, List.set_cons_succ]
      refine wpAnyH_done (by kernel_rfl) ?_ _
      refine NoPanic.normal ?_
      go_wp2_with fail
      go_ret
      exact ⟨congrArg (fun s => Ending.returned (Value.string s)) (st_cat [t] [L]), hn.1⟩
    refine AllReadyH.cons (o := { dst := some 9, op := Op.call { callee := Callee.value (Operand.func 45), args := #[Operand.tmp 8], argTypes := #[4] }, type := 9, pos := "ref.go:87", after := #[{ on := 5, ground := Ground.data }], guard := none }) rfl (fun K hK => ?_) AllReadyH.nil
    go_simp
    refine (HP.out _).mono ?_
    rintro e W4 ⟨rfl, hnq⟩
    go_wp2_with fail
    have hn := hn.new hnq
    (try have hr := hr.new hnq)
    refine hK.out _ _ (by first | exact hn | exact Upd.alloc hn _) (fun hn => ?_)
    clear hK K
    try simp only [Act.put, List.setIfInBounds_toArray, List.set_cons_zero, List.set_cons_succ]
    refine wpAnyH_ready (rs := [3]) (by kernel_rfl) (by simp) ?_
    refine AllReadyH.cons (o := { dst := some 6, op := Op.convert 50 9 (Operand.tmp 5), type := 9, pos := "ref.go:87", after := #[{ on := 2, ground := Ground.data }], guard := none }) rfl (fun K hK => ?_) AllReadyH.nil
    have hs := hr.str
    go_simp
    refine hK.out _ _ (by first | exact hn | exact Upd.alloc hn _) (fun hn => ?_)
    clear hK K
    try simp only [Act.put, List.setIfInBounds_toArray, List.set_cons_zero, List.set_cons_succ]
    refine wpAnyH_take (i := 7) (oi := { dst := some 10, op := Op.binOp BinOp.add 9 (Operand.tmp 6) (Operand.tmp 9) 9, type := 9, pos := "ref.go:87", after := #[{ on := 3, ground := Ground.data }, { on := 6, ground := Ground.data }], guard := none }) (v := ?v3x7) rfl (by kernel_rfl) (by kernel_rfl) (by kernel_rfl) (fun _ _ _ h => h) (Or.inl ⟨by rfl, ?y3x7⟩) hn ?r3x7
    case y3x7 => (intro wS hS; (try go_simp); (try with_reducible rfl))
    try simp only [Act.put, List.setIfInBounds_toArray, List.set_cons_zero, List.set_cons_succ]
    refine wpAnyH_take (i := 8) (oi := { dst := some 2, op := Op.assign (Operand.tmp 10), type := 9, pos := "ref.go:87", after := #[{ on := 7, ground := Ground.data }, { on := 6, ground := Ground.chain }, { on := 0, ground := Ground.phase }, { on := 1, ground := Ground.phase }, { on := 2, ground := Ground.phase }, { on := 3, ground := Ground.phase }, { on := 4, ground := Ground.phase }, { on := 5, ground := Ground.phase }, { on := 6, ground := Ground.phase }, { on := 7, ground := Ground.phase }], guard := none }) (v := ?v3x8) rfl (by kernel_rfl) (by kernel_rfl) (by kernel_rfl) (fun _ _ _ h => h) (Or.inl ⟨by rfl, ?y3x8⟩) hn ?r3x8
    case y3x8 => (intro wS hS; (try go_simp); (try with_reducible rfl))
    try simp only [Act.put, List.setIfInBounds_toArray, List.set_cons_zero, List.set_cons_succ]
    refine wpAnyH_done (by kernel_rfl) ?_ _
    refine NoPanic.normal ?_
    go_wp2_with fail
    go_ret
    exact ⟨congrArg (fun s => Ending.returned (Value.string s)) (st_cat [t] [L]), hn.1⟩
  refine AllReadyH.cons (o := { dst := some 9, op := Op.call { callee := Callee.value (Operand.func 45), args := #[Operand.tmp 8], argTypes := #[4] }, type := 9, pos := "ref.go:87", after := #[{ on := 5, ground := Ground.data }], guard := none }) rfl (fun K hK => ?_) AllReadyH.nil
  go_simp
  refine (HP.out _).mono ?_
  rintro e W4 ⟨rfl, hnq⟩
  go_wp2_with fail
  have hn := hn.new hnq
  (try have hr := hr.new hnq)
  refine hK.out _ _ (by first | exact hn | exact Upd.alloc hn _) (fun hn => ?_)
  clear hK K
  try simp only [Act.put, List.setIfInBounds_toArray, List.set_cons_zero, List.set_cons_succ]
  refine wpAnyH_ready (rs := [2]) (by kernel_rfl) (by simp) ?_
  refine AllReadyH.cons (o := { dst := some 5, op := Op.buildSlice 50 1 #[(0, Operand.tmp 4)], type := 50, pos := "ref.go:87", after := #[{ on := 1, ground := Ground.data }], guard := none }) rfl (fun K hK => ?_) AllReadyH.nil
  go_simp
  refine boxStep ?_
  intro W2 hu hz
  have hn := hn.new hu
  have hr := rd1 hz hxl
  rw [HS.out] at hr
  clear hz
  refine hK.out _ _ (by first | exact hn | exact Upd.alloc hn _) (fun hn => ?_)
  clear hK K
  try simp only [Act.put, List.setIfInBounds_toArray, List.set_cons_zero, List.set_cons_succ]
  refine wpAnyH_ready (rs := [3]) (by kernel_rfl) (by simp) ?_
  refine AllReadyH.cons (o := { dst := some 6, op := Op.convert 50 9 (Operand.tmp 5), type := 9, pos := "ref.go:87", after := #[{ on := 2, ground := Ground.data }], guard := none }) rfl (fun K hK => ?_) AllReadyH.nil
  have hs := hr.str
  go_simp
  refine hK.out _ _ (by first | exact hn | exact Upd.alloc hn _) (fun hn => ?_)
  clear hK K
  try simp only [Act.put, List.setIfInBounds_toArray, List.set_cons_zero, List.set_cons_succ]
  refine wpAnyH_take (i := 7) (oi := { dst := some 10, op := Op.binOp BinOp.add 9 (Operand.tmp 6) (Operand.tmp 9) 9, type := 9, pos := "ref.go:87", after := #[{ on := 3, ground := Ground.data }, { on := 6, ground := Ground.data }], guard := none }) (v := ?v3x9) rfl (by kernel_rfl) (by kernel_rfl) (by kernel_rfl) (fun _ _ _ h => h) (Or.inl ⟨by rfl, ?y3x9⟩) hn ?r3x9
  case y3x9 => (intro wS hS; (try go_simp); (try with_reducible rfl))
  try simp only [Act.put, List.setIfInBounds_toArray, List.set_cons_zero, List.set_cons_succ]
  refine wpAnyH_take (i := 8) (oi := { dst := some 2, op := Op.assign (Operand.tmp 10), type := 9, pos := "ref.go:87", after := #[{ on := 7, ground := Ground.data }, { on := 6, ground := Ground.chain }, { on := 0, ground := Ground.phase }, { on := 1, ground := Ground.phase }, { on := 2, ground := Ground.phase }, { on := 3, ground := Ground.phase }, { on := 4, ground := Ground.phase }, { on := 5, ground := Ground.phase }, { on := 6, ground := Ground.phase }, { on := 7, ground := Ground.phase }], guard := none }) (v := ?v3x10) rfl (by kernel_rfl) (by kernel_rfl) (by kernel_rfl) (fun _ _ _ h => h) (Or.inl ⟨by rfl, ?y3x10⟩) hn ?r3x10
  case y3x10 => (intro wS hS; (try go_simp); (try with_reducible rfl))
  try simp only [Act.put, List.setIfInBounds_toArray, List.set_cons_zero, List.set_cons_succ]
  refine wpAnyH_done (by kernel_rfl) ?_ _
  refine NoPanic.normal ?_
  go_wp2_with fail
  go_ret
  exact ⟨congrArg (fun s => Ending.returned (Value.string s)) (st_cat [t] [L]), hn.1⟩
theorem fnPutR_any (p r : ByteArray) (more : Nat) (w : World) (h1 : p.size ≤ 1000000) (h2 : r.size ≤ 1000000) (hmo : more ≤ 1000) :
    Calls Try.prog 20 #[.agg #[.string p, .string r], .int .i64 more] w (Says (fnB (lb p) (lb r) more) w) := by
  have HP := hid (fun w => putVals_ref p more w (by omega) hmo)
  have HR := hid (fun w => putVals_ref r more w (by omega) hmo)
  have l1 := (numV_len (v := p.size) (by omega) more).2
  have l2 := (numV_len (v := r.size) (by omega) more).2
  have l3 := lb_len p
  have l4 := lb_len r
  have HE : Hid (fnB (lb p) (lb r) more = [96] ++ (numV p.size more ++ lb p) ++ (numV r.size more ++ lb r)) := by
    show _ = _
    unfold fnB
    rw [lb_len, lb_len]
    simp
  rw [HE.out]
  have k1 : (numV p.size more ++ lb p).length ≤ 1000005 := by rw [List.length_append]; omega
  have k2 : (numV r.size more ++ lb r).length ≤ 1000005 := by rw [List.length_append]; omega
  unfold Says at HP HR
  generalize numV p.size more ++ lb p = L1 at *
  generalize numV r.size more ++ lb r = L2 at *
  obtain ⟨L3, hL3⟩ : ∃ L3, [96] ++ L1 = L3 := ⟨_, rfl⟩
  have k3 : ¬ 9223372036854775807 < L3.length + L2.length := by rw [← hL3, List.length_append, List.length_cons, List.length_nil]; omega
  have k4 : ¬ 9223372036854775807 < 1 + L1.length := by omega
  have HL3 : Hid ((⟨#[96]⟩ : ByteArray) ++ ⟨L1.toArray⟩ = ⟨L3.toArray⟩) := by show _ = _; rw [← hL3]; exact st_cat [96] L1
  rw [hL3]
  clear hL3 l1 l2 l3 l4 k1 k2
  have HW : Hid (Bx1 w #[.string p, .string r] 23 (w.alloc (.cells #[.string p, .string r] 23))) := Bx1.mk0
  go_enter Try.func20, Try.ntmps20
  go_wp2_with fail
  generalize w.alloc (.cells #[.string p, .string r] 23) = w0 at *
  have hn := HW.out.new (Upd.refl _ w0).drew
  refine wp_region_noPanic ?_
  refine wp_region_held_drew (S := (Bx1 w #[.string p, .string r] 23)) (by kernel_rfl) (by first | exact hn | exact (Upd.refl _ _).drew | exact Upd.drew (by assumption)) (fun hn => ?_)
  generalize w0.drew = wd at *
  refine wpAnyH_take (i := 0) (oi := { dst := some 5, op := Op.fieldAddr 23 (Operand.tmp 2) 0, type := 0, pos := "ref.go:71", after := #[], guard := none }) (v := ?v4x1) rfl (by kernel_rfl) (by kernel_rfl) (by kernel_rfl) (fun _ _ _ h => h) (Or.inl ⟨by rfl, ?y4x1⟩) hn ?r4x1
  case y4x1 => (intro wS hS; (try go_simp); (try with_reducible rfl))
  try simp only [Act.put, List.setIfInBounds_toArray, List.set_cons_zero, List.set_cons_succ]
  refine wpAnyH_take (i := 1) (oi := { dst := some 6, op := Op.load 9 (Operand.tmp 5), type := 9, pos := "ref.go:71", after := #[{ on := 0, ground := Ground.data }], guard := none }) (v := ?v4x2) rfl (by kernel_rfl) (by kernel_rfl) (by kernel_rfl) (fun _ _ _ h => h) (Or.inl ⟨by rfl, ?y4x2⟩) hn ?r4x2
  case y4x2 => (intro wS hS; have c0 := hS.at 0 rfl; (try go_simp); (try with_reducible rfl))
  try simp only [Act.put, List.setIfInBounds_toArray, List.set_cons_zero, List.set_cons_succ]
  refine wpAnyH_take (i := 2) (oi := { dst := some 7, op := Op.move (Operand.tmp 1), type := 3, pos := "ref.go:71", after := #[], guard := none }) (v := ?v4x3) rfl (by kernel_rfl) (by kernel_rfl) (by kernel_rfl) (fun _ _ _ h => h) (Or.inl ⟨by rfl, ?y4x3⟩) hn ?r4x3
  case y4x3 => (intro wS hS; (try go_simp); (try with_reducible rfl))
  try simp only [Act.put, List.setIfInBounds_toArray, List.set_cons_zero, List.set_cons_succ]
  refine wpAnyH_take (i := 5) (oi := { dst := some 10, op := Op.fieldAddr 23 (Operand.tmp 2) 1, type := 0, pos := "ref.go:71", after := #[], guard := none }) (v := ?v4x4) rfl (by kernel_rfl) (by kernel_rfl) (by kernel_rfl) (fun _ _ _ h => h) (Or.inl ⟨by rfl, ?y4x4⟩) hn ?r4x4
  case y4x4 => (intro wS hS; (try go_simp); (try with_reducible rfl))
  try simp only [Act.put, List.setIfInBounds_toArray, List.set_cons_zero, List.set_cons_succ]
  refine wpAnyH_take (i := 6) (oi := { dst := some 11, op := Op.load 9 (Operand.tmp 10), type := 9, pos := "ref.go:71", after := #[{ on := 5, ground := Ground.data }], guard := none }) (v := ?v4x5) rfl (by kernel_rfl) (by kernel_rfl) (by kernel_rfl) (fun _ _ _ h => h) (Or.inl ⟨by rfl, ?y4x5⟩) hn ?r4x5
  case y4x5 => (intro wS hS; have c0 := hS.at 1 rfl; (try go_simp); (try with_reducible rfl))
  try simp only [Act.put, List.setIfInBounds_toArray, List.set_cons_zero, List.set_cons_succ]
  refine wpAnyH_take (i := 7) (oi := { dst := some 12, op := Op.move (Operand.tmp 1), type := 3, pos := "ref.go:71", after := #[], guard := none }) (v := ?v4x6) rfl (by kernel_rfl) (by kernel_rfl) (by kernel_rfl) (fun _ _ _ h => h) (Or.inl ⟨by rfl, ?y4x6⟩) hn ?r4x6
  case y4x6 => (intro wS hS; (try go_simp); (try with_reducible rfl))
  try simp only [Act.put, List.setIfInBounds_toArray, List.set_cons_zero, List.set_cons_succ]
  refine wpAnyH_ready (rs := [3]) (by kernel_rfl) (by simp) ?_
  refine AllReadyH.cons (o := { dst := some 8, op := Op.call { callee := Callee.value (Operand.func 22), args := #[Operand.tmp 6, Operand.tmp 7], argTypes := #[9, 3] }, type := 9, pos := "ref.go:71", after := #[{ on := 1, ground := Ground.data }, { on := 2, ground := Ground.data }], guard := none }) rfl (fun K hK => ?_) AllReadyH.nil
  go_simp
  refine (HP.out _).mono ?_
  rintro e W4 ⟨rfl, hnq⟩
  go_wp2_with fail
  have hn := hn.new hnq
  refine hK.out _ _ (by first | exact hn | exact Upd.alloc hn _) (fun hn => ?_)
  clear hK K
  try simp only [Act.put, List.setIfInBounds_toArray, List.set_cons_zero, List.set_cons_succ]
  refine wpAnyH_take (i := 4) (oi := { dst := some 9, op := Op.binOp BinOp.add 9 (Operand.const (Value.string { data := #[96] })) (Operand.tmp 8) 9, type := 9, pos := "ref.go:71", after := #[{ on := 3, ground := Ground.data }], guard := none }) (v := ?v4x7) rfl (by kernel_rfl) (by kernel_rfl) (by kernel_rfl) (fun _ _ _ h => h) (Or.inl ⟨by rfl, ?y4x7⟩) hn ?r4x7
  case y4x7 => (intro wS hS; go_simp; rw [HL3.out]; (try go_simp); (try with_reducible rfl))
  try simp only [Act.put, List.setIfInBounds_toArray, List.set_cons_zero, List.set_cons_succ]
  refine wpAnyH_ready (rs := [8]) (by kernel_rfl) (by simp) ?_
  refine AllReadyH.cons (o := { dst := some 13, op := Op.call { callee := Callee.value (Operand.func 22), args := #[Operand.tmp 11, Operand.tmp 12], argTypes := #[9, 3] }, type := 9, pos := "ref.go:71", after := #[{ on := 6, ground := Ground.data }, { on := 7, ground := Ground.data }, { on := 3, ground := Ground.chain }], guard := none }) rfl (fun K hK => ?_) AllReadyH.nil
  go_simp
  refine (HR.out _).mono ?_
  rintro e W4 ⟨rfl, hnq⟩
  go_wp2_with fail
  have hn := hn.new hnq
  refine hK.out _ _ (by first | exact hn | exact Upd.alloc hn _) (fun hn => ?_)
  clear hK K
  try simp only [Act.put, List.setIfInBounds_toArray, List.set_cons_zero, List.set_cons_succ]
  refine wpAnyH_take (i := 9) (oi := { dst := some 14, op := Op.binOp BinOp.add 9 (Operand.tmp 9) (Operand.tmp 13) 9, type := 9, pos := "ref.go:71", after := #[{ on := 4, ground := Ground.data }, { on := 8, ground := Ground.data }], guard := none }) (v := ?v4x8) rfl (by kernel_rfl) (by kernel_rfl) (by kernel_rfl) (fun _ _ _ h => h) (Or.inl ⟨by rfl, ?y4x8⟩) hn ?r4x8
  case y4x8 => (intro wS hS; (try go_simp); (try with_reducible rfl))
  try simp only [Act.put, List.setIfInBounds_toArray, List.set_cons_zero, List.set_cons_succ]
  refine wpAnyH_take (i := 10) (oi := { dst := some 4, op := Op.assign (Operand.tmp 14), type := 9, pos := "ref.go:71", after := #[{ on := 9, ground := Ground.data }, { on := 8, ground := Ground.chain }, { on := 0, ground := Ground.phase }, { on := 1, ground := Ground.phase }, { on := 2, ground := Ground.phase }, { on := 3, ground := Ground.phase }, { on := 4, ground := Ground.phase }, { on := 5, ground := Ground.phase }, { on := 6, ground := Ground.phase }, { on := 7, ground := Ground.phase }, { on := 8, ground := Ground.phase }, { on := 9, ground := Ground.phase }], guard := none }) (v := ?v4x9) rfl (by kernel_rfl) (by kernel_rfl) (by kernel_rfl) (fun _ _ _ h => h) (Or.inl ⟨by rfl, ?y4x9⟩) hn ?r4x9
  case y4x9 => (intro wS hS; (try go_simp); (try with_reducible rfl))
  try simp only [Act.put, List.setIfInBounds_toArray, List.set_cons_zero, List.set_cons_succ]
  refine wpAnyH_done (by kernel_rfl) ?_ _
  refine NoPanic.normal ?_
  go_wp2_with fail
  go_ret
  exact ⟨congrArg (fun s => Ending.returned (Value.string s)) (st_cat L3 L2), hn.1⟩
end Go.Proofs.Ytjagimlmclejeaa
