/-
  An instruction's bytes: the document's Put.
-/
import Derived.Test.YtnngibflnnmioaaRrd
import Derived.Test.YtnngibflnnmioaaPut
namespace Go.Proofs.Ytnngibflnnmioaa
open Go.RowKit Go.Proofs.Leb Go.Proofs.Own
set_option maxRecDepth 1000000
set_option maxHeartbeats 16000000

def opR (p c more : Nat) : List UInt8 := if p = 0 then [UInt8.ofNat c] else UInt8.ofNat p :: numV c more
theorem rd_byte (w : World) (n : Nat) (hn : n < 256) : Rd (w.alloc (.cells #[.int .u8 (n : Nat)] 5)) (.slice (some ⟨w.heap.size, 0, none⟩) 1 1) [UInt8.ofNat n] := by
  have hr := Rd.lit w [UInt8.ofNat n] 5
  simp only [List.map_cons, List.map_nil, cb_of _ hn] at hr
  exact hr
theorem str_lit (w : World) (n : Nat) (hn : n < 256) : (convert 39 9 (.slice (some ⟨w.heap.size, 0, none⟩) 1 1)).run Try.prog (w.alloc (.cells #[.int .u8 (n : Nat)] 5)) = .ok (.string ⟨[UInt8.ofNat n].toArray⟩) (w.alloc (.cells #[.int .u8 (n : Nat)] 5)) := by
  have hr := Rd.lit w [UInt8.ofNat n] 5
  simp only [List.map_cons, List.map_nil, cb_of _ hn] at hr
  exact hr.str
/-- the bytes of what an op has, each number in some bytes more -/
def putR (s : Int) (m : Ins) (more : Nat) : List UInt8 :=
  if s = 1 then (if m.k = 0 then [64] else if m.k = 1 then [UInt8.ofNat m.t.toNat] else sgnV m.i 33 more) else if s = 2 then numV m.x.toNat more else if s = 3 ∨ s = 5 then numV m.x.toNat more ++ numV m.y.toNat more
  else if s = 4 then numV m.li.length more ++ (m.li.flatMap (numV · more) ++ numV m.x.toNat more) else if s = 6 then [0] else if s = 7 then [0, 0] else if s = 8 then numV m.x.toNat more ++ [0]
  else if s = 9 then sgnV m.n 32 more else if s = 10 then sgnV m.n 64 more else if s = 15 then [UInt8.ofNat m.lane.toNat]
  else if s = 16 then numV m.x.toNat more ++ (numV m.y.toNat more ++ [UInt8.ofNat m.lane.toNat]) else if s = 17 then lb m.ty else if s = 18 then numV m.ty.size more ++ lb m.ty else lb m.raw

theorem sgn_len (v : Int) (wd more : Nat) (h : (encS v 0).length ≤ 10) : (sgnV v wd more).length ≤ 10 + most wd + wd := by
  unfold sgnV
  split
  · omega
  · have := encS_len v.natAbs v (most wd - (encS v 0).length) (Nat.le_refl _)
    omega
theorem rPut_any (p c t i x y lane more : Nat) (k n : Int) (li : List Nat) (raw ty : ByteArray) (l : Value) (w : World) (hp : p < 256) (hc : c < 4294967296) (ht : t < 256) (hi : i < 4294967296) (hx : x < 4294967296) (hy : y < 4294967296)
    (hlane : lane < 256) (n1 : -9223372036854775808 ≤ n) (n2 : n ≤ 9223372036854775807) (hli : ∀ z ∈ li, z < 4294967296) (s1 : li.length ≤ 1000) (s2 : raw.size ≤ 1000) (s3 : ty.size ≤ 1000) (hm : more ≤ 1000)
    (h1 : RdM .u32 w l li) (hn9 : (shapeV p c).1 = 9 → -2147483648 ≤ n ∧ n ≤ 2147483647) :
    Calls Try.prog 12 #[rI ⟨p, c, k, t, i, x, y, li, n, raw, lane, ty⟩ l, .int .i64 more] w (Says (opR p c more ++ putR (shapeV p c).1 ⟨p, c, k, t, i, x, y, li, n, raw, lane, ty⟩ more) w) := by
  have HF := hid (fun w => rShape_any p c k t i x y l (.int .i64 n) (.int .u8 lane) (.string raw) (.string ty) w (by omega) (by omega))
  have HNU := hid (fun (v : Nat) (hv : v < 4294967296) w => num_any v more w hv hm)
  generalize shapeV p c = r at *
  obtain ⟨s, ln⟩ := r
  simp only at *
  obtain ⟨w0, hw0⟩ : ∃ w0, w.alloc (.cells (cellsR ⟨p, c, k, t, i, x, y, li, n, raw, lane, ty⟩ l) 25) = w0 := ⟨_, rfl⟩
  have HN0 : Hid (New w w0) := by show New _ _; rw [← hw0]; exact (Upd.refl _ _).alloc _
  have HB0 : Hid (BoxR w0 w.heap.size ⟨p, c, k, t, i, x, y, li, n, raw, lane, ty⟩ l) := by show BoxR _ _ _ _; rw [← hw0]; exact hp_new rfl
  unfold cellsR at hw0
  have HW := hid hw0
  have HL := hid h1
  obtain ⟨al, cl, rfl⟩ := h1.shape
  clear hw0 h1
  unfold rI
  simp only
  go_enter Try.func12, Try.ntmps12
  go_wp2_with fail
  rw [HW.out]
  refine (HF.out _).mono ?_
  rintro e wa ⟨rfl, hna⟩
  have HB := hid (hp1 HB0.out hna)
  have HN := hid (New.trans HN0.out hna)
  clear hna HB0 HN0 HF HW
  have z1 : wa.cell? ⟨w.heap.size, 1, none⟩ = some (.int .u32 c) := cellAt HB.out 1 rfl
  obtain ⟨d, hd, hd1, hd2⟩ : ∃ d : Nat, (c : Int) % 256 = d ∧ d < 256 ∧ UInt8.ofNat d = UInt8.ofNat c := ⟨c % 256, by omega, by omega, UInt8.toNat_inj.mp (by rw [u8_of _ (by omega), UInt8.toNat_ofNat'])⟩
  have hs1 := str_lit wa d hd1
  obtain ⟨wl, hwl⟩ : ∃ wl, wa.alloc (.cells #[.int .u8 (d : Nat)] 5) = wl := ⟨_, rfl⟩
  rw [hwl] at hs1
  have hnl : New wa wl := by rw [← hwl]; exact (Upd.refl _ _).alloc _
  have HBL := hid (hp1 HB.out hnl)
  have HNL := hid (New.trans HN.out hnl)
  have z0 : wl.cell? ⟨w.heap.size, 0, none⟩ = some (.int .u8 p) := cellAt HBL.out 0 rfl
  clear hnl
  have HD2 := hid hd2
  clear hd1 hd2
  have HLI := hid hli
  clear hli
  go_upto_if 23 with fail
  clear hs1 hd hwl
  go_cut [7] (fun o wx => o = .string ⟨(opR p c more).toArray⟩ ∧ New wl wx)
  case first =>
    by_cases hp0 : p = 0
    · have e : opR p c more = [UInt8.ofNat c] := if_pos hp0
      have e0 : ((p : Int) != 0) = false := by rw [hp0]; rfl
      have HEO := hid e
      clear hp0 e
      go_wp2_with fail
      go_meet
      exact ⟨by rw [HEO.out, HD2.out], Upd.refl _ _⟩
    · have e : opR p c more = UInt8.ofNat p :: numV c more := if_neg hp0
      have e0 : ((p : Int) != 0) = true := by rw [bne_iff_ne]; omega
      have HEO := hid e
      clear hp0 e
      have hln := numV_len hc more
      have hcc : ¬ 9223372036854775807 < 1 + (numV c more).length := by omega
      have hcc2 : ¬ 9223372036854775807 < (numV c more).length + 1 := by omega
      have q0 := hid z0
      have q1 : Hid (wl.cell? ⟨w.heap.size, 1, none⟩ = some (.int .u32 c)) := cellAt HBL.out 1 rfl
      have HNC := hid (HNU.out c hc)
      have hn : New wl wl.drew := (Upd.refl _ _).drew
      go_wp2_with fail
      refine wp_region_noPanic ?_
      refine wp_region_held_drew (S := (New wl)) (by kernel_rfl) (by first | exact hn | exact (Upd.refl _ _).drew | exact Upd.drew (by assumption)) (fun hn => ?_)
      generalize wl.drew = wd at *
      refine wpAnyH_take (i := 0) (oi := { dst := some 24, op := Op.fieldAddr 25 (Operand.tmp 2) 0, type := 0, pos := "ref.go:101", after := #[], guard := none }) (v := ?v40x1) rfl (by kernel_rfl) (by kernel_rfl) (by kernel_rfl) (fun _ _ _ h => h) (Or.inl ⟨by rfl, ?y40x1⟩) hn ?r40x1
      case y40x1 => (intro wS hS; (try go_simp); (try with_reducible rfl))
      try simp only [Act.put, List.setIfInBounds_toArray, List.set_cons_zero, List.set_cons_succ]
      refine wpAnyH_take (i := 1) (oi := { dst := some 25, op := Op.load 5 (Operand.tmp 24), type := 5, pos := "ref.go:101", after := #[{ on := 0, ground := Ground.data }], guard := none }) (v := ?v40x2) rfl (by kernel_rfl) (by kernel_rfl) (by kernel_rfl) (fun _ _ _ h => h) (Or.inl ⟨by rfl, ?y40x2⟩) hn ?r40x2
      case y40x2 => (intro wS hS; have c0 := hS.cell q0.out (fun h => h); (try go_simp); (try with_reducible rfl))
      try simp only [Act.put, List.setIfInBounds_toArray, List.set_cons_zero, List.set_cons_succ]
      refine wpAnyH_take (i := 4) (oi := { dst := some 28, op := Op.fieldAddr 25 (Operand.tmp 2) 1, type := 0, pos := "ref.go:101", after := #[], guard := none }) (v := ?v40x3) rfl (by kernel_rfl) (by kernel_rfl) (by kernel_rfl) (fun _ _ _ h => h) (Or.inl ⟨by rfl, ?y40x3⟩) hn ?r40x3
      case y40x3 => (intro wS hS; (try go_simp); (try with_reducible rfl))
      try simp only [Act.put, List.setIfInBounds_toArray, List.set_cons_zero, List.set_cons_succ]
      refine wpAnyH_take (i := 5) (oi := { dst := some 29, op := Op.load 22 (Operand.tmp 28), type := 22, pos := "ref.go:101", after := #[{ on := 4, ground := Ground.data }], guard := none }) (v := ?v40x4) rfl (by kernel_rfl) (by kernel_rfl) (by kernel_rfl) (fun _ _ _ h => h) (Or.inl ⟨by rfl, ?y40x4⟩) hn ?r40x4
      case y40x4 => (intro wS hS; have c0 := hS.cell q1.out (fun h => h); (try go_simp); (try with_reducible rfl))
      try simp only [Act.put, List.setIfInBounds_toArray, List.set_cons_zero, List.set_cons_succ]
      refine wpAnyH_take (i := 6) (oi := { dst := some 30, op := Op.move (Operand.tmp 1), type := 3, pos := "ref.go:101", after := #[], guard := none }) (v := ?v40x5) rfl (by kernel_rfl) (by kernel_rfl) (by kernel_rfl) (fun _ _ _ h => h) (Or.inl ⟨by rfl, ?y40x5⟩) hn ?r40x5
      case y40x5 => (intro wS hS; (try go_simp); (try with_reducible rfl))
      try simp only [Act.put, List.setIfInBounds_toArray, List.set_cons_zero, List.set_cons_succ]
      refine wpAnyH_ready (rs := [2, 7]) (by kernel_rfl) (by simp) ?_
      refine AllReadyH.cons (o := { dst := some 26, op := Op.buildSlice 39 1 #[(0, Operand.tmp 25)], type := 39, pos := "ref.go:101", after := #[{ on := 1, ground := Ground.data }], guard := none }) rfl (fun K hK => ?_) ?_
      · skip
        go_simp
        have hrl := rd_byte wd p hp
        have hn := hn.alloc (.cells #[.int .u8 (p : Nat)] 5)
        refine hK.out _ _ (by first | exact hn | exact Upd.alloc hn _) (fun hn => ?_)
        clear hK K
        try simp only [Act.put, List.setIfInBounds_toArray, List.set_cons_zero, List.set_cons_succ]
        refine wpAnyH_ready (rs := [3, 7]) (by kernel_rfl) (by simp) ?_
        refine AllReadyH.cons (o := { dst := some 27, op := Op.convert 39 9 (Operand.tmp 26), type := 9, pos := "ref.go:101", after := #[{ on := 2, ground := Ground.data }], guard := none }) rfl (fun K hK => ?_) ?_
        · skip
          have hs := hrl.str
          go_simp
          refine hK.out _ _ (by first | exact hn | exact Upd.alloc hn _) (fun hn => ?_)
          clear hK K
          try simp only [Act.put, List.setIfInBounds_toArray, List.set_cons_zero, List.set_cons_succ]
          refine wpAnyH_ready (rs := [7]) (by kernel_rfl) (by simp) ?_
          refine AllReadyH.cons (o := { dst := some 31, op := Op.call { callee := Callee.value (Operand.func 44), args := #[Operand.tmp 29, Operand.tmp 30], argTypes := #[22, 3] }, type := 9, pos := "ref.go:101", after := #[{ on := 5, ground := Ground.data }, { on := 6, ground := Ground.data }], guard := none }) rfl (fun K hK => ?_) AllReadyH.nil
          go_simp
          refine (HNC.out _).mono ?_
          rintro e wq ⟨rfl, hnq⟩
          go_wp2_with fail
          have hn := New.trans hn hnq
          have hrl := hrl.new hnq
          refine hK.out _ _ (by first | exact hn | exact Upd.alloc hn _) (fun hn => ?_)
          clear hK K
          try simp only [Act.put, List.setIfInBounds_toArray, List.set_cons_zero, List.set_cons_succ]
          refine wpAnyH_take (i := 8) (oi := { dst := some 32, op := Op.binOp BinOp.add 9 (Operand.tmp 27) (Operand.tmp 31) 9, type := 9, pos := "ref.go:101", after := #[{ on := 3, ground := Ground.data }, { on := 7, ground := Ground.data }], guard := none }) (v := ?v40x6) rfl (by kernel_rfl) (by kernel_rfl) (by kernel_rfl) (fun _ _ _ h => h) (Or.inl ⟨by rfl, ?y40x6⟩) hn ?r40x6
          case y40x6 => (intro wS hS; (try go_simp); (try with_reducible rfl))
          try simp only [Act.put, List.setIfInBounds_toArray, List.set_cons_zero, List.set_cons_succ]
          refine wpAnyH_take (i := 9) (oi := { dst := some 7, op := Op.assign (Operand.tmp 32), type := 9, pos := "ref.go:101", after := #[{ on := 8, ground := Ground.data }, { on := 7, ground := Ground.chain }, { on := 0, ground := Ground.phase }, { on := 1, ground := Ground.phase }, { on := 2, ground := Ground.phase }, { on := 3, ground := Ground.phase }, { on := 4, ground := Ground.phase }, { on := 5, ground := Ground.phase }, { on := 6, ground := Ground.phase }, { on := 7, ground := Ground.phase }, { on := 8, ground := Ground.phase }], guard := none }) (v := ?v40x7) rfl (by kernel_rfl) (by kernel_rfl) (by kernel_rfl) (fun _ _ _ h => h) (Or.inl ⟨by rfl, ?y40x7⟩) hn ?r40x7
          case y40x7 => (intro wS hS; (try go_simp); (try with_reducible rfl))
          try simp only [Act.put, List.setIfInBounds_toArray, List.set_cons_zero, List.set_cons_succ]
          refine wpAnyH_done (by kernel_rfl) ?_ _
          refine NoPanic.normal ?_
          go_wp2_with fail
          go_meet
          exact ⟨by rw [HEO.out]; first | rfl | (rw [st_cat]; rfl), hn⟩
        refine AllReadyH.cons (o := { dst := some 31, op := Op.call { callee := Callee.value (Operand.func 44), args := #[Operand.tmp 29, Operand.tmp 30], argTypes := #[22, 3] }, type := 9, pos := "ref.go:101", after := #[{ on := 5, ground := Ground.data }, { on := 6, ground := Ground.data }], guard := none }) rfl (fun K hK => ?_) AllReadyH.nil
        go_simp
        refine (HNC.out _).mono ?_
        rintro e wq ⟨rfl, hnq⟩
        go_wp2_with fail
        have hn := New.trans hn hnq
        have hrl := hrl.new hnq
        refine hK.out _ _ (by first | exact hn | exact Upd.alloc hn _) (fun hn => ?_)
        clear hK K
        try simp only [Act.put, List.setIfInBounds_toArray, List.set_cons_zero, List.set_cons_succ]
        refine wpAnyH_ready (rs := [3]) (by kernel_rfl) (by simp) ?_
        refine AllReadyH.cons (o := { dst := some 27, op := Op.convert 39 9 (Operand.tmp 26), type := 9, pos := "ref.go:101", after := #[{ on := 2, ground := Ground.data }], guard := none }) rfl (fun K hK => ?_) AllReadyH.nil
        have hs := hrl.str
        go_simp
        refine hK.out _ _ (by first | exact hn | exact Upd.alloc hn _) (fun hn => ?_)
        clear hK K
        try simp only [Act.put, List.setIfInBounds_toArray, List.set_cons_zero, List.set_cons_succ]
        refine wpAnyH_take (i := 8) (oi := { dst := some 32, op := Op.binOp BinOp.add 9 (Operand.tmp 27) (Operand.tmp 31) 9, type := 9, pos := "ref.go:101", after := #[{ on := 3, ground := Ground.data }, { on := 7, ground := Ground.data }], guard := none }) (v := ?v40x8) rfl (by kernel_rfl) (by kernel_rfl) (by kernel_rfl) (fun _ _ _ h => h) (Or.inl ⟨by rfl, ?y40x8⟩) hn ?r40x8
        case y40x8 => (intro wS hS; (try go_simp); (try with_reducible rfl))
        try simp only [Act.put, List.setIfInBounds_toArray, List.set_cons_zero, List.set_cons_succ]
        refine wpAnyH_take (i := 9) (oi := { dst := some 7, op := Op.assign (Operand.tmp 32), type := 9, pos := "ref.go:101", after := #[{ on := 8, ground := Ground.data }, { on := 7, ground := Ground.chain }, { on := 0, ground := Ground.phase }, { on := 1, ground := Ground.phase }, { on := 2, ground := Ground.phase }, { on := 3, ground := Ground.phase }, { on := 4, ground := Ground.phase }, { on := 5, ground := Ground.phase }, { on := 6, ground := Ground.phase }, { on := 7, ground := Ground.phase }, { on := 8, ground := Ground.phase }], guard := none }) (v := ?v40x9) rfl (by kernel_rfl) (by kernel_rfl) (by kernel_rfl) (fun _ _ _ h => h) (Or.inl ⟨by rfl, ?y40x9⟩) hn ?r40x9
        case y40x9 => (intro wS hS; (try go_simp); (try with_reducible rfl))
        try simp only [Act.put, List.setIfInBounds_toArray, List.set_cons_zero, List.set_cons_succ]
        refine wpAnyH_done (by kernel_rfl) ?_ _
        refine NoPanic.normal ?_
        go_wp2_with fail
        go_meet
        exact ⟨by rw [HEO.out]; first | rfl | (rw [st_cat]; rfl), hn⟩
      refine AllReadyH.cons (o := { dst := some 31, op := Op.call { callee := Callee.value (Operand.func 44), args := #[Operand.tmp 29, Operand.tmp 30], argTypes := #[22, 3] }, type := 9, pos := "ref.go:101", after := #[{ on := 5, ground := Ground.data }, { on := 6, ground := Ground.data }], guard := none }) rfl (fun K hK => ?_) AllReadyH.nil
      go_simp
      refine (HNC.out _).mono ?_
      rintro e wq ⟨rfl, hnq⟩
      go_wp2_with fail
      have hn := New.trans hn hnq
      refine hK.out _ _ (by first | exact hn | exact Upd.alloc hn _) (fun hn => ?_)
      clear hK K
      try simp only [Act.put, List.setIfInBounds_toArray, List.set_cons_zero, List.set_cons_succ]
      refine wpAnyH_ready (rs := [2]) (by kernel_rfl) (by simp) ?_
      refine AllReadyH.cons (o := { dst := some 26, op := Op.buildSlice 39 1 #[(0, Operand.tmp 25)], type := 39, pos := "ref.go:101", after := #[{ on := 1, ground := Ground.data }], guard := none }) rfl (fun K hK => ?_) AllReadyH.nil
      go_simp
      have hrl := rd_byte wq p hp
      have hn := hn.alloc (.cells #[.int .u8 (p : Nat)] 5)
      refine hK.out _ _ (by first | exact hn | exact Upd.alloc hn _) (fun hn => ?_)
      clear hK K
      try simp only [Act.put, List.setIfInBounds_toArray, List.set_cons_zero, List.set_cons_succ]
      refine wpAnyH_ready (rs := [3]) (by kernel_rfl) (by simp) ?_
      refine AllReadyH.cons (o := { dst := some 27, op := Op.convert 39 9 (Operand.tmp 26), type := 9, pos := "ref.go:101", after := #[{ on := 2, ground := Ground.data }], guard := none }) rfl (fun K hK => ?_) AllReadyH.nil
      have hs := hrl.str
      go_simp
      refine hK.out _ _ (by first | exact hn | exact Upd.alloc hn _) (fun hn => ?_)
      clear hK K
      try simp only [Act.put, List.setIfInBounds_toArray, List.set_cons_zero, List.set_cons_succ]
      refine wpAnyH_take (i := 8) (oi := { dst := some 32, op := Op.binOp BinOp.add 9 (Operand.tmp 27) (Operand.tmp 31) 9, type := 9, pos := "ref.go:101", after := #[{ on := 3, ground := Ground.data }, { on := 7, ground := Ground.data }], guard := none }) (v := ?v40x10) rfl (by kernel_rfl) (by kernel_rfl) (by kernel_rfl) (fun _ _ _ h => h) (Or.inl ⟨by rfl, ?y40x10⟩) hn ?r40x10
      case y40x10 => (intro wS hS; (try go_simp); (try with_reducible rfl))
      try simp only [Act.put, List.setIfInBounds_toArray, List.set_cons_zero, List.set_cons_succ]
      refine wpAnyH_take (i := 9) (oi := { dst := some 7, op := Op.assign (Operand.tmp 32), type := 9, pos := "ref.go:101", after := #[{ on := 8, ground := Ground.data }, { on := 7, ground := Ground.chain }, { on := 0, ground := Ground.phase }, { on := 1, ground := Ground.phase }, { on := 2, ground := Ground.phase }, { on := 3, ground := Ground.phase }, { on := 4, ground := Ground.phase }, { on := 5, ground := Ground.phase }, { on := 6, ground := Ground.phase }, { on := 7, ground := Ground.phase }, { on := 8, ground := Ground.phase }], guard := none }) (v := ?v40x11) rfl (by kernel_rfl) (by kernel_rfl) (by kernel_rfl) (fun _ _ _ h => h) (Or.inl ⟨by rfl, ?y40x11⟩) hn ?r40x11
      case y40x11 => (intro wS hS; (try go_simp); (try with_reducible rfl))
      try simp only [Act.put, List.setIfInBounds_toArray, List.set_cons_zero, List.set_cons_succ]
      refine wpAnyH_done (by kernel_rfl) ?_ _
      refine NoPanic.normal ?_
      go_wp2_with fail
      go_meet
      exact ⟨by rw [HEO.out]; first | rfl | (rw [st_cat]; rfl), hn⟩
  case rest =>
    obtain ⟨rfl, hnc⟩ := hcut
    have HC := hid (New.trans HNL.out hnc)
    have HB2 := hid (hp1 HBL.out hnc)
    clear hnc HNL HBL z0 z1 HB HN
    have q5 : Hid (wc.cell? ⟨w.heap.size, 5, none⟩ = some (.int .u32 x)) := cellAt HB2.out 5 rfl
    have q6 : Hid (wc.cell? ⟨w.heap.size, 6, none⟩ = some (.int .u32 y)) := cellAt HB2.out 6 rfl
    go_upto_region 5 with fail
    go_cut [8, 9] (fun a b wx => a = .string ⟨(numV x more).toArray⟩ ∧ b = .string ⟨(numV y more).toArray⟩ ∧ New wc wx)
    case first =>
      have HNX := hid (HNU.out x hx)
      have HNY := hid (HNU.out y hy)
      have hn : New wc wc.drew := (Upd.refl _ _).drew
      refine wp_region_noPanic ?_
      refine wp_region_held_drew (S := (New wc)) (by kernel_rfl) (by first | exact hn | exact (Upd.refl _ _).drew | exact Upd.drew (by assumption)) (fun hn => ?_)
      generalize wc.drew = wd at *
      refine wpAnyH_take (i := 0) (oi := { dst := some 33, op := Op.fieldAddr 25 (Operand.tmp 2) 5, type := 0, pos := "ref.go:103", after := #[], guard := none }) (v := ?v41x1) rfl (by kernel_rfl) (by kernel_rfl) (by kernel_rfl) (fun _ _ _ h => h) (Or.inl ⟨by rfl, ?y41x1⟩) hn ?r41x1
      case y41x1 => (intro wS hS; (try go_simp); (try with_reducible rfl))
      try simp only [Act.put, List.setIfInBounds_toArray, List.set_cons_zero, List.set_cons_succ]
      refine wpAnyH_take (i := 1) (oi := { dst := some 34, op := Op.load 22 (Operand.tmp 33), type := 22, pos := "ref.go:103", after := #[{ on := 0, ground := Ground.data }], guard := none }) (v := ?v41x2) rfl (by kernel_rfl) (by kernel_rfl) (by kernel_rfl) (fun _ _ _ h => h) (Or.inl ⟨by rfl, ?y41x2⟩) hn ?r41x2
      case y41x2 => (intro wS hS; have c0 := hS.cell q5.out (fun h => h); (try go_simp); (try with_reducible rfl))
      try simp only [Act.put, List.setIfInBounds_toArray, List.set_cons_zero, List.set_cons_succ]
      refine wpAnyH_take (i := 2) (oi := { dst := some 35, op := Op.move (Operand.tmp 1), type := 3, pos := "ref.go:103", after := #[], guard := none }) (v := ?v41x3) rfl (by kernel_rfl) (by kernel_rfl) (by kernel_rfl) (fun _ _ _ h => h) (Or.inl ⟨by rfl, ?y41x3⟩) hn ?r41x3
      case y41x3 => (intro wS hS; (try go_simp); (try with_reducible rfl))
      try simp only [Act.put, List.setIfInBounds_toArray, List.set_cons_zero, List.set_cons_succ]
      refine wpAnyH_take (i := 4) (oi := { dst := some 37, op := Op.fieldAddr 25 (Operand.tmp 2) 6, type := 0, pos := "ref.go:103", after := #[], guard := none }) (v := ?v41x4) rfl (by kernel_rfl) (by kernel_rfl) (by kernel_rfl) (fun _ _ _ h => h) (Or.inl ⟨by rfl, ?y41x4⟩) hn ?r41x4
      case y41x4 => (intro wS hS; (try go_simp); (try with_reducible rfl))
      try simp only [Act.put, List.setIfInBounds_toArray, List.set_cons_zero, List.set_cons_succ]
      refine wpAnyH_take (i := 5) (oi := { dst := some 38, op := Op.load 22 (Operand.tmp 37), type := 22, pos := "ref.go:103", after := #[{ on := 4, ground := Ground.data }], guard := none }) (v := ?v41x5) rfl (by kernel_rfl) (by kernel_rfl) (by kernel_rfl) (fun _ _ _ h => h) (Or.inl ⟨by rfl, ?y41x5⟩) hn ?r41x5
      case y41x5 => (intro wS hS; have c0 := hS.cell q6.out (fun h => h); (try go_simp); (try with_reducible rfl))
      try simp only [Act.put, List.setIfInBounds_toArray, List.set_cons_zero, List.set_cons_succ]
      refine wpAnyH_take (i := 6) (oi := { dst := some 39, op := Op.move (Operand.tmp 1), type := 3, pos := "ref.go:103", after := #[], guard := none }) (v := ?v41x6) rfl (by kernel_rfl) (by kernel_rfl) (by kernel_rfl) (fun _ _ _ h => h) (Or.inl ⟨by rfl, ?y41x6⟩) hn ?r41x6
      case y41x6 => (intro wS hS; (try go_simp); (try with_reducible rfl))
      try simp only [Act.put, List.setIfInBounds_toArray, List.set_cons_zero, List.set_cons_succ]
      refine wpAnyH_ready (rs := [3]) (by kernel_rfl) (by simp) ?_
      refine AllReadyH.cons (o := { dst := some 36, op := Op.call { callee := Callee.value (Operand.func 44), args := #[Operand.tmp 34, Operand.tmp 35], argTypes := #[22, 3] }, type := 9, pos := "ref.go:103", after := #[{ on := 1, ground := Ground.data }, { on := 2, ground := Ground.data }], guard := none }) rfl (fun K hK => ?_) AllReadyH.nil
      go_simp
      refine (HNX.out _).mono ?_
      rintro e wq ⟨rfl, hnq⟩
      go_wp2_with fail
      have hn := New.trans hn hnq
      refine hK.out _ _ (by first | exact hn | exact Upd.alloc hn _) (fun hn => ?_)
      clear hK K
      try simp only [Act.put, List.setIfInBounds_toArray, List.set_cons_zero, List.set_cons_succ]
      refine wpAnyH_ready (rs := [7]) (by kernel_rfl) (by simp) ?_
      refine AllReadyH.cons (o := { dst := some 40, op := Op.call { callee := Callee.value (Operand.func 44), args := #[Operand.tmp 38, Operand.tmp 39], argTypes := #[22, 3] }, type := 9, pos := "ref.go:103", after := #[{ on := 5, ground := Ground.data }, { on := 6, ground := Ground.data }, { on := 3, ground := Ground.chain }], guard := none }) rfl (fun K hK => ?_) AllReadyH.nil
      go_simp
      refine (HNY.out _).mono ?_
      rintro e wq ⟨rfl, hnq⟩
      go_wp2_with fail
      have hn := New.trans hn hnq
      refine hK.out _ _ (by first | exact hn | exact Upd.alloc hn _) (fun hn => ?_)
      clear hK K
      try simp only [Act.put, List.setIfInBounds_toArray, List.set_cons_zero, List.set_cons_succ]
      refine wpAnyH_take (i := 8) (oi := { dst := some 8, op := Op.assign (Operand.tmp 36), type := 9, pos := "ref.go:103", after := #[{ on := 3, ground := Ground.data }, { on := 7, ground := Ground.chain }, { on := 0, ground := Ground.phase }, { on := 1, ground := Ground.phase }, { on := 2, ground := Ground.phase }, { on := 3, ground := Ground.phase }, { on := 4, ground := Ground.textOnly Departure.lateStores }, { on := 5, ground := Ground.textOnly Departure.lateStores }, { on := 6, ground := Ground.textOnly Departure.lateStores }, { on := 7, ground := Ground.textOnly Departure.lateStoresUnsure }], guard := none }) (v := ?v41x7) rfl (by kernel_rfl) (by kernel_rfl) (by kernel_rfl) (fun _ _ _ h => h) (Or.inl ⟨by rfl, ?y41x7⟩) hn ?r41x7
      case y41x7 => (intro wS hS; (try go_simp); (try with_reducible rfl))
      try simp only [Act.put, List.setIfInBounds_toArray, List.set_cons_zero, List.set_cons_succ]
      refine wpAnyH_take (i := 9) (oi := { dst := some 9, op := Op.assign (Operand.tmp 40), type := 9, pos := "ref.go:103", after := #[{ on := 7, ground := Ground.data }, { on := 8, ground := Ground.chain }, { on := 0, ground := Ground.phase }, { on := 1, ground := Ground.phase }, { on := 2, ground := Ground.phase }, { on := 3, ground := Ground.phase }, { on := 4, ground := Ground.phase }, { on := 5, ground := Ground.phase }, { on := 6, ground := Ground.phase }, { on := 7, ground := Ground.phase }, { on := 8, ground := Ground.phase }], guard := none }) (v := ?v41x8) rfl (by kernel_rfl) (by kernel_rfl) (by kernel_rfl) (fun _ _ _ h => h) (Or.inl ⟨by rfl, ?y41x8⟩) hn ?r41x8
      case y41x8 => (intro wS hS; (try go_simp); (try with_reducible rfl))
      try simp only [Act.put, List.setIfInBounds_toArray, List.set_cons_zero, List.set_cons_succ]
      refine wpAnyH_done (by kernel_rfl) ?_ _
      refine NoPanic.normal ?_
      go_wp2_with fail
      go_meet
      exact ⟨rfl, rfl, hn⟩
    case rest =>
      obtain ⟨rfl, rfl, hnd⟩ := hcut
                                    --ARMS
      obtain ⟨w3, rfl⟩ : ∃ w3, w3 = wc := ⟨_, rfl⟩
      have HD := hid (New.trans HC.out hnd)
      have HB3 := hid (hp1 HB2.out hnd)
      have HPV := hid (fun w => putVals_ref ty more w (by omega) hm)
      have HS33 := hid (fun w => signed_any i 33 more w (by omega) (by omega) (by decide) (encS_len_le 5 i (by decide) (by omega) (by omega)) hm)
      have HS64 := hid (fun w => signed_any n 64 more w n1 n2 (by decide) (encS_len_le 10 n (by decide) (by omega) (by omega)) hm)
      have HS32 : Hid (s = 9 → ∀ w, Calls Try.prog 45 #[.int .i64 n, .int .i64 32, .int .i64 more] w (Says (sgnV n 32 more) w)) := fun h w => by
        have := hn9 h
        exact signed_any n 32 more w n1 n2 (by decide) (encS_len_le 5 n (by decide) (by omega) (by omega)) hm
      have hxl := numV_len hx more
      have hyl := numV_len hy more
      have hol : (opR p c more).length ≤ 6 := by
        have := numV_len hc more
        unfold opR
        split
        · simp
        · simp; omega
      have hx2 : (x : Int).toNat = x := Int.toNat_natCast x
      generalize hO : opR p c more = O at *
      have HXX : Hid (numV x more = numV x more) := rfl
      clear hnd HB2 HC q5 q6
      rcases shapes2 s with rfl | rfl | rfl | rfl | rfl | rfl | rfl | rfl | rfl | rfl | rfl | rfl | rfl | rfl | rfl | rfl | rfl | rfl | ⟨h1, h2, h3, h4, h5, h6, h7, h8, h9, h10, h11, h12, h13, h14, h15, h16, h17, h18⟩
      · -- 1
        have z2 : w3.cell? ⟨w.heap.size, 2, none⟩ = some (.int .i64 k) := cellAt HB3.out 2 rfl
        by_cases k0 : k = 0
        · subst k0
          have hcc0 : ¬ 9223372036854775807 < O.length + 1 := by omega
          go_wp2_with fail
          go_ret
          exact ⟨by first | rfl | (simp only [st_cat, List.append_assoc]; rfl), HD.out⟩
        · have ek : (k == 0) = false := beq_eq_false_iff_ne.mpr k0
          by_cases k1 : k = 1
          · subst k1
            have z3 : w3.cell? ⟨w.heap.size, 3, none⟩ = some (.int .u8 t) := cellAt HB3.out 3 rfl
            have hs := str_lit w3 t ht
            clear k0
            have hcc0 : ¬ 9223372036854775807 < O.length + 1 := by omega
            go_wp2_with fail
            go_ret
            exact ⟨by first | rfl | (simp only [st_cat, List.append_assoc]; rfl), HD.out.alloc _⟩
          · have ek1 : (k == 1) = false := beq_eq_false_iff_ne.mpr k1
            have z4 : w3.cell? ⟨w.heap.size, 4, none⟩ = some (.int .u32 i) := cellAt HB3.out 4 rfl
            have HK := hid (And.intro k0 k1)
            clear k0 k1
            have hsl := sgn_len i 33 more (Nat.le_trans (encS_len_le 5 i (by decide) (by omega) (by omega)) (by decide))
            rw [show most 33 = 5 from rfl] at hsl
            have hcc0 : ¬ 9223372036854775807 < O.length + (sgnV i 33 more).length := by omega
            go_wp2_with fail
            refine (HS33.out _).mono ?_
            rintro e we ⟨rfl, hne⟩
            have HDE := hid (New.trans HD.out hne)
            clear hne z2 z4
            go_wp2_with fail
            go_ret
            refine ⟨?_, HDE.out⟩
            show _ = Ending.returned (.string ⟨(O ++ (if k = 0 then [64] else if k = 1 then [UInt8.ofNat (t : Int).toNat] else sgnV i 33 more)).toArray⟩)
            rw [if_neg HK.out.1, if_neg HK.out.2, ← st_cat]
            rfl
      · -- 2
        have hcc0 : ¬ 9223372036854775807 < O.length + (numV x more).length := by omega
        go_wp2_with fail
        go_ret
        exact ⟨by first | rfl | (simp only [st_cat, List.append_assoc]; rfl), HD.out⟩
      · -- 3
        have hcc0 : ¬ 9223372036854775807 < O.length + (numV x more).length := by omega
        have hcc1 : ¬ 9223372036854775807 < O.length + (numV x more).length + (numV y more).length := by omega
        go_wp2_with fail
        go_ret
        exact ⟨by first | rfl | (simp only [st_cat, List.append_assoc]; rfl), HD.out⟩
      · -- 4
        have HQ7 : Hid (w3.cell? ⟨w.heap.size, 7, none⟩ = some (.slice al li.length cl)) := cellAt HB3.out 7 rfl
        have z7 := HQ7.out
        have hll := numV_len (v := li.length) (by omega) more
        have hcc0 : ¬ 9223372036854775807 < O.length + (numV li.length more).length := by omega
        have HNL := hid (HNU.out li.length (by omega))
        go_wp2_with fail
        refine (HNL.out _).mono ?_
        rintro e we ⟨rfl, hne⟩
        have HDE := hid hne
        have z7 := HDE.out.cell HQ7.out (fun h => h)
        clear hne
        go_wp2_with fail
        go_loopw [7, 10] (fun o c wr => ∃ (j : Nat) (d : List UInt8), c = .int .i64 j ∧ o = .string ⟨d.toArray⟩ ∧ d = O ++ (numV li.length more ++ (li.take j).flatMap (numV · more)) ∧ d.length ≤ 11 + 5 * j ∧ j ≤ li.length ∧ New w3 wr) (fun _ c _ => li.length - (intOf c).toNat)
        case atStart => exact ⟨0, _, rfl, (by rw [st_cat]), (by simp), (by simp only [List.length_append]; omega), by omega, HDE.out⟩
        case round =>
          obtain ⟨j, d, rfl, rfl, hd, hdl, hj1, hnr⟩ := hrel
          clear z7 hcc0
          have z7 := hnr.cell HQ7.out (fun h => h)
          have HNR := hid hnr
          have HDD := hid hd
          have hrd := HL.out.new (New.trans HD.out hnr)
          clear hnr hd
          by_cases hj : j < li.length
          · obtain ⟨a', c', e, hcap, hn5, hcell⟩ := hrd
            cases e
            obtain ⟨b5, o5, rfl, hce⟩ := hcell (by intro h; subst h; simp at hj)
            have hc1 := hce j hj
            have hg1 : li[j]? = some li[j] := List.getElem?_eq_getElem hj
            have hzl := HLI.out _ (List.getElem_mem hj)
            generalize hxe : li[j] = xe at *
            have HG := hid hg1
            clear hg1 hxe hce hcell
            have hxl2 := numV_len hzl more
            have hcc1 : ¬ 9223372036854775807 < d.length + (numV xe more).length := by omega
            have HNE := hid (HNU.out xe hzl)
            go_wp2_with fail
            refine (HNE.out _).mono ?_
            rintro e wf ⟨rfl, hnf⟩
            have HNF := hid (New.trans HNR.out hnf)
            clear hnf z7 hc1
            go_wp2_with fail
            go_roundw
            case rel =>
              refine ⟨j + 1, d ++ numV xe more, by go_num, by rw [st_cat], ?_, by simp only [List.length_append]; omega, by omega, HNF.out⟩
              rw [HDD.out, List.take_add_one, HG.out]
              simp
            case measure => simp [intOf]; omega
          · have e : j = li.length := by omega
            subst e
            have hcc1 : ¬ 9223372036854775807 < d.length + (numV x more).length := by omega
            clear hrd
            go_wp2_with fail
            go_ret
            refine ⟨?_, New.trans HD.out HNR.out⟩
            have e2 : O ++ putR 4 ⟨p, c, k, t, i, x, y, li, n, raw, lane, ty⟩ more = d ++ numV x more := by
              rw [HDD.out, List.take_length]
              show O ++ (numV li.length more ++ (li.flatMap (numV · more) ++ numV x more)) = _
              simp only [List.append_assoc]
            rw [e2, ← st_cat]
            rfl
      · -- 5
        have hcc0 : ¬ 9223372036854775807 < O.length + (numV x more).length := by omega
        have hcc1 : ¬ 9223372036854775807 < O.length + (numV x more).length + (numV y more).length := by omega
        go_wp2_with fail
        go_ret
        exact ⟨by first | rfl | (simp only [st_cat, List.append_assoc]; rfl), HD.out⟩
      · -- 6
        have hcc0 : ¬ 9223372036854775807 < O.length + 1 := by omega
        go_wp2_with fail
        go_ret
        exact ⟨by first | rfl | (simp only [st_cat, List.append_assoc]; rfl), HD.out⟩
      · -- 7
        have hcc0 : ¬ 9223372036854775807 < O.length + 2 := by omega
        go_wp2_with fail
        go_ret
        exact ⟨by first | rfl | (simp only [st_cat, List.append_assoc]; rfl), HD.out⟩
      · -- 8
        have hcc0 : ¬ 9223372036854775807 < O.length + (numV x more).length := by omega
        have hcc1 : ¬ 9223372036854775807 < O.length + (numV x more).length + 1 := by omega
        go_wp2_with fail
        go_ret
        exact ⟨by first | rfl | (simp only [st_cat, List.append_assoc]; rfl), HD.out⟩
      · -- 9
        have z8 : w3.cell? ⟨w.heap.size, 8, none⟩ = some (.int .i64 n) := cellAt HB3.out 8 rfl
        have HSX := hid (HS32.out rfl)
        have h9 := hn9 rfl
        have hsl := sgn_len n 32 more (Nat.le_trans (encS_len_le 5 n (by decide) (by omega) (by omega)) (by decide))
        rw [show most 32 = 5 from rfl] at hsl
        have hcc0 : ¬ 9223372036854775807 < O.length + (sgnV n 32 more).length := by omega
        go_wp2_with fail
        refine (HSX.out _).mono ?_
        rintro e we ⟨rfl, hne⟩
        have HDE := hid (New.trans HD.out hne)
        clear hne z8
        go_wp2_with fail
        go_ret
        exact ⟨by first | rfl | (simp only [st_cat, List.append_assoc]; rfl), HDE.out⟩
      · -- 10
        have z8 : w3.cell? ⟨w.heap.size, 8, none⟩ = some (.int .i64 n) := cellAt HB3.out 8 rfl
        have HSX := hid (fun w => HS64.out w)
        have hsl := sgn_len n 64 more (Nat.le_trans (encS_len_le 10 n (by decide) (by omega) (by omega)) (by decide))
        rw [show most 64 = 10 from rfl] at hsl
        have hcc0 : ¬ 9223372036854775807 < O.length + (sgnV n 64 more).length := by omega
        go_wp2_with fail
        refine (HSX.out _).mono ?_
        rintro e we ⟨rfl, hne⟩
        have HDE := hid (New.trans HD.out hne)
        clear hne z8
        go_wp2_with fail
        go_ret
        exact ⟨by first | rfl | (simp only [st_cat, List.append_assoc]; rfl), HDE.out⟩
      · -- 11
        have z9 : w3.cell? ⟨w.heap.size, 9, none⟩ = some (.string raw) := cellAt HB3.out 9 rfl
        have hcc0 : ¬ 9223372036854775807 < O.length + raw.size := by omega
        go_wp2_with fail
        go_ret
        exact ⟨by first | rfl | (simp only [st_cat, List.append_assoc]; rfl), HD.out⟩
      · -- 12
        have z9 : w3.cell? ⟨w.heap.size, 9, none⟩ = some (.string raw) := cellAt HB3.out 9 rfl
        have hcc0 : ¬ 9223372036854775807 < O.length + raw.size := by omega
        go_wp2_with fail
        go_ret
        exact ⟨by first | rfl | (simp only [st_cat, List.append_assoc]; rfl), HD.out⟩
      · -- 13
        have z9 : w3.cell? ⟨w.heap.size, 9, none⟩ = some (.string raw) := cellAt HB3.out 9 rfl
        have hcc0 : ¬ 9223372036854775807 < O.length + raw.size := by omega
        go_wp2_with fail
        go_ret
        exact ⟨by first | rfl | (simp only [st_cat, List.append_assoc]; rfl), HD.out⟩
      · -- 14
        have z9 : w3.cell? ⟨w.heap.size, 9, none⟩ = some (.string raw) := cellAt HB3.out 9 rfl
        have hcc0 : ¬ 9223372036854775807 < O.length + raw.size := by omega
        go_wp2_with fail
        go_ret
        exact ⟨by first | rfl | (simp only [st_cat, List.append_assoc]; rfl), HD.out⟩
      · -- 15
        have z10 : w3.cell? ⟨w.heap.size, 10, none⟩ = some (.int .u8 lane) := cellAt HB3.out 10 rfl
        have hs := str_lit w3 lane hlane
        have hcc0 : ¬ 9223372036854775807 < O.length + 1 := by omega
        go_wp2_with fail
        go_ret
        exact ⟨by first | rfl | (simp only [st_cat, List.append_assoc]; rfl), HD.out.alloc _⟩
      · -- 16
        have z10 : w3.cell? ⟨w.heap.size, 10, none⟩ = some (.int .u8 lane) := cellAt HB3.out 10 rfl
        have hs := str_lit w3 lane hlane
        have hcc0 : ¬ 9223372036854775807 < O.length + (numV x more).length := by omega
        have hcc1 : ¬ 9223372036854775807 < O.length + (numV x more).length + (numV y more).length := by omega
        have hcc2 : ¬ 9223372036854775807 < O.length + (numV x more).length + (numV y more).length + 1 := by omega
        go_wp2_with fail
        go_ret
        exact ⟨by first | rfl | (simp only [st_cat, List.append_assoc]; rfl), HD.out.alloc _⟩
      · -- 17
        have z11 : w3.cell? ⟨w.heap.size, 11, none⟩ = some (.string ty) := cellAt HB3.out 11 rfl
        have hcc0 : ¬ 9223372036854775807 < O.length + ty.size := by omega
        go_wp2_with fail
        go_ret
        exact ⟨by first | rfl | (simp only [st_cat, List.append_assoc]; rfl), HD.out⟩
      · -- 18
        have z11 : w3.cell? ⟨w.heap.size, 11, none⟩ = some (.string ty) := cellAt HB3.out 11 rfl
        have hvl := numV_len (v := ty.size) (by omega) more
        have hll := lb_len ty
        have hcc0 : ¬ 9223372036854775807 < O.length + ((numV ty.size more).length + (lb ty).length) := by omega
        clear hll
        go_wp2_with fail
        refine (HPV.out _).mono ?_
        rintro e we ⟨rfl, hne⟩
        have HDE := hid (New.trans HD.out hne)
        clear hne z11
        go_wp2_with fail
        go_ret
        exact ⟨by first | rfl | (simp only [st_cat, List.append_assoc]; rfl), HDE.out⟩
      · have HPZ : Hid (putR s ⟨p, c, k, t, i, x, y, li, n, raw, lane, ty⟩ more = lb raw) := by show _ = _; unfold putR; simp [h1, h2, h3, h4, h5, h6, h7, h8, h9, h10, h15, h16, h17, h18]
        have e1 : (s == 1) = false := beq_eq_false_iff_ne.mpr h1
        have e2 : (s == 2) = false := beq_eq_false_iff_ne.mpr h2
        have e3 : (s == 3) = false := beq_eq_false_iff_ne.mpr h3
        have e4 : (s == 4) = false := beq_eq_false_iff_ne.mpr h4
        have e5 : (s == 5) = false := beq_eq_false_iff_ne.mpr h5
        have e6 : (s == 6) = false := beq_eq_false_iff_ne.mpr h6
        have e7 : (s == 7) = false := beq_eq_false_iff_ne.mpr h7
        have e8 : (s == 8) = false := beq_eq_false_iff_ne.mpr h8
        have e9 : (s == 9) = false := beq_eq_false_iff_ne.mpr h9
        have e10 : (s == 10) = false := beq_eq_false_iff_ne.mpr h10
        have e11 : (s == 11) = false := beq_eq_false_iff_ne.mpr h11
        have e12 : (s == 12) = false := beq_eq_false_iff_ne.mpr h12
        have e13 : (s == 13) = false := beq_eq_false_iff_ne.mpr h13
        have e14 : (s == 14) = false := beq_eq_false_iff_ne.mpr h14
        have e15 : (s == 15) = false := beq_eq_false_iff_ne.mpr h15
        have e16 : (s == 16) = false := beq_eq_false_iff_ne.mpr h16
        have e17 : (s == 17) = false := beq_eq_false_iff_ne.mpr h17
        have e18 : (s == 18) = false := beq_eq_false_iff_ne.mpr h18
        clear h1 h2 h3 h4 h5 h6 h7 h8 h9 h10 h11 h12 h13 h14 h15 h16 h17 h18
        have z9 : w3.cell? ⟨w.heap.size, 9, none⟩ = some (.string raw) := cellAt HB3.out 9 rfl
        have hcc0 : ¬ 9223372036854775807 < O.length + raw.size := by omega
        go_wp2_with fail
        go_ret
        refine ⟨?_, HD.out⟩
        rw [HPZ.out, ← st_cat]
        rfl
end Go.Proofs.Ytnngibflnnmioaa
